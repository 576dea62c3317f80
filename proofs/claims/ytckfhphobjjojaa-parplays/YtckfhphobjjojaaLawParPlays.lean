/-
  The walk of polderlaw03.ParPlays: it returns true, and writes nothing that was there.
-/
import Derived.Test.YtckfhphobjjojaaPx
namespace Go.Proofs.Ytckfhphobjjojaa
open Go.RowKit M

set_option maxHeartbeats 4000000 in
theorem walk_ParPlays (a : Option Addr) (n c : Nat) (at_ : Int) (p : ByteArray) (w : World) (h : ∃ l : List ByteArray, Txt w (.slice a n c) l ∧ n ≤ maxLen ∧ ∀ s ∈ l, s.size ≤ maxLen)
    (_ : (Lit.int .i64 at_).wf = true) (hp : p.size ≤ maxLen) :
    Calls Try.prog 5 #[.slice a n c, .int .i64 at_, .string p] w fun e w' => e = .returned (.bool true) ∧ Below w.heap.size w w' := by
  obtain ⟨l, hT, hm, hz⟩ := h
  have HN := Lib.hid hT.len
  have HM : Hid (l.length ≤ maxLen) := Lib.hid (by rw [HN.out]; exact hm)
  have HT := Lib.hid hT
  have HZ := Lib.hid hz
  have HPS := Lib.hid hp
  unfold maxLen at hm hp
  clear hT hz
  go_enter Try.func5, Try.ntmps5
  go_wp2_with fail
  refine (awake_any _).mono ?_
  rintro e w1 ⟨rfl, b1⟩
  have HT1 := Lib.hid (HT.out.below b1)
  cases hf : fewL l with
  | false =>
    go_wp2_with fail
    refine (few_any l _ _ HT1.out HM.out HZ.out false hf).mono ?_
    rintro e w2 ⟨rfl, rfl⟩
    clear hf
    go_wp2_with fail
    refine (awake_any _).mono ?_
    rintro e w3 ⟨rfl, b3⟩
    go_wp2
    go_ret
    exact ⟨rfl, early2 b1 b3⟩
  | true =>
    go_wp2_with fail
    refine (few_any l _ _ HT1.out HM.out HZ.out true hf).mono ?_
    rintro e w2 ⟨rfl, rfl⟩
    obtain ⟨hl30, hs4⟩ := few_short hf
    have HS4 := Lib.hid hs4
    have hn30 : n < 30 := by rw [← HN.out]; exact hl30
    clear hf hl30 hs4
    by_cases hp4 : 4000 < p.size
    · go_wp2_with fail
      refine (awake_any _).mono ?_
      rintro e w3 ⟨rfl, b3⟩
      go_wp2
      go_ret
      exact ⟨rfl, early2 b1 b3⟩
    · have hp4' : decide (4000 < (p.size : Int)) = false := by rw [decide_eq_false_iff_not]; omega
      obtain ⟨bp, hbp⟩ : ∃ b, blankB p = b := ⟨_, rfl⟩
      have HBP := Lib.hid hbp
      have HE1 : Hid (∀ k, k < n → 2 ≤ n → okL (l.eraseIdx k) = evenL (l.eraseIdx k)) := Lib.hid fun k hk hn2 => ok_even (by rw [List.length_eraseIdx_of_lt (by rw [HN.out]; exact hk), HN.out]; omega)
      have HZE : Hid (∀ k, ∀ s ∈ l.eraseIdx k, s.size ≤ 4000) := Lib.hid fun k s hs => HS4.out s (mem_erase hs)
      have HLE : Hid (∀ k, (l.eraseIdx k).length ≤ maxLen) := Lib.hid fun k => Nat.le_trans (List.length_eraseIdx_le _ _) HM.out
      clear hbp
      by_cases hn0 : n = 0
      · have hl0 : l = [] := List.eq_nil_of_length_eq_zero (by rw [HN.out]; exact hn0)
        have HMK : Hid (mkB l = ⟨#[]⟩ ∧ mkE l = 1) := Lib.hid (mk_no (by rw [hl0]; rfl))
        have HEV : Hid (evenL l = true) := Lib.hid (by rw [hl0]; rfl)
        have HR : Hid ((okL l && decide (p = parB l)) = false) := Lib.hid (by rw [hl0]; rfl)
        clear hl0
        subst hn0
        have HA : Hid (0 < 2 ∨ at_ < 0 ∨ ((0 : Nat) : Int) ≤ at_) := Lib.hid (.inl (by omega))
        go_wp2_with fail
        refine (make_any l _ _ HT1.out HM.out HZ.out).mono ?_
        rw [HMK.out.1, HMK.out.2]
        rintro e w2 ⟨rfl, c2⟩
        have b2 := early2 b1 c2
        have HT2 := Lib.hid (HT.out.below b2)
        clear c2 b1 HT1
        go_wp2_with fail
        refine (again_no _ _ _ _ _ HA.out).mono ?_
        rintro e wq ⟨rfl, rfl⟩
        go_wp2_with fail
        refine (even_any l _ _ HT2.out HM.out true HEV.out).mono ?_
        rintro e w3 ⟨rfl, c3⟩
        have b3 := early2 b2 c3
        have HT3 := Lib.hid (HT.out.below b3)
        clear c3 b2 HT2
        go_wp2_with fail
        refine (refEven_any l _ _ HT3.out HM.out HZ.out true HEV.out).mono ?_
        rintro e w4 ⟨rfl, c4⟩
        have b4 := early2 b3 c4
        have HT4 := Lib.hid (HT.out.below b4)
        clear c4 b3 HT3
        go_wp2_with fail
        refine (blank_any p _ HPS.out bp HBP.out).mono ?_
        rintro e wq ⟨rfl, rfl⟩
        go_wp2_with fail
        refine (refZeros_any p _ HPS.out bp HBP.out).mono ?_
        rintro e wq ⟨rfl, rfl⟩
        go_wp2_with fail
        refine (right_any p l _ _ HT4.out HM.out HZ.out false HR.out).mono ?_
        rintro e w5 ⟨rfl, c5⟩
        have b5 := early2 b4 c5
        have HT5 := Lib.hid (HT.out.below b5)
        clear c5 b4 HT4
        go_wp2
        go_ret
        exact ⟨by simp, b5⟩
      · skip
        have hn0' : ((n : Int) == 0) = false := by rw [beq_eq_false_iff_ne]; omega
        have hok := ok_even (l := l) (by rw [HN.out]; omega)
        by_cases he : evenL l = true
        · rw [he] at hok
          have HEV := Lib.hid he
          have HO := Lib.hid hok
          have HMK := Lib.hid (mk_ok hok)
          obtain ⟨P, hP⟩ : ∃ P, parB l = P := ⟨_, rfl⟩
          have HP := Lib.hid hP
          have HR : Hid ((okL l && decide (p = parB l)) = (p.toList == P.toList)) := Lib.hid (by rw [hok, hP, eq_txt, Bool.true_and])
          rw [hP] at HMK
          clear hok he hP
          by_cases hA1 : n < 2
          · have HA : Hid (n < 2 ∨ at_ < 0 ∨ (n : Int) ≤ at_) := Lib.hid (.inl hA1)
            go_wp2_with fail
            refine (make_any l _ _ HT1.out HM.out HZ.out).mono ?_
            rw [HMK.out.1, HMK.out.2]
            rintro e w2 ⟨rfl, c2⟩
            have b2 := early2 b1 c2
            have HT2 := Lib.hid (HT.out.below b2)
            clear c2 b1 HT1
            go_wp2_with fail
            refine (again_no _ _ _ _ _ HA.out).mono ?_
            rintro e wq ⟨rfl, rfl⟩
            go_wp2_with fail
            refine (even_any l _ _ HT2.out HM.out true HEV.out).mono ?_
            rintro e w3 ⟨rfl, c3⟩
            have b3 := early2 b2 c3
            have HT3 := Lib.hid (HT.out.below b3)
            clear c3 b2 HT2
            go_wp2_with fail
            refine (refEven_any l _ _ HT3.out HM.out HZ.out true HEV.out).mono ?_
            rintro e w4 ⟨rfl, c4⟩
            have b4 := early2 b3 c4
            have HT4 := Lib.hid (HT.out.below b4)
            clear c4 b3 HT3
            go_wp2_with fail
            refine (blank_any p _ HPS.out bp HBP.out).mono ?_
            rintro e wq ⟨rfl, rfl⟩
            go_wp2_with fail
            refine (refZeros_any p _ HPS.out bp HBP.out).mono ?_
            rintro e wq ⟨rfl, rfl⟩
            go_wp2_with fail
            refine (refEven_any l _ _ HT4.out HM.out HZ.out true HEV.out).mono ?_
            rintro e w5 ⟨rfl, c5⟩
            have b5 := early2 b4 c5
            have HT5 := Lib.hid (HT.out.below b5)
            clear c5 b4 HT4
            go_wp2_with fail
            refine (refXor_any l _ _ HT5.out HM.out HO.out HS4.out).mono ?_
            rw [HP.out]
            rintro e w6 ⟨rfl, c6⟩
            have b6 := early2 b5 c6
            have HT6 := Lib.hid (HT.out.below b6)
            clear c6 b5 HT5
            go_wp2_with fail
            refine (right_any p l _ _ HT6.out HM.out HZ.out (p.toList == P.toList) HR.out).mono ?_
            rintro e w7 ⟨rfl, c7⟩
            have b7 := early2 b6 c7
            have HT7 := Lib.hid (HT.out.below b7)
            clear c7 b6 HT6
            go_wp2
            go_ret
            exact ⟨by simp, b7⟩
          · skip
            by_cases hA2 : at_ < 0
            · have HA : Hid (n < 2 ∨ at_ < 0 ∨ (n : Int) ≤ at_) := Lib.hid (.inr (.inl hA2))
              go_wp2_with fail
              refine (make_any l _ _ HT1.out HM.out HZ.out).mono ?_
              rw [HMK.out.1, HMK.out.2]
              rintro e w2 ⟨rfl, c2⟩
              have b2 := early2 b1 c2
              have HT2 := Lib.hid (HT.out.below b2)
              clear c2 b1 HT1
              go_wp2_with fail
              refine (again_no _ _ _ _ _ HA.out).mono ?_
              rintro e wq ⟨rfl, rfl⟩
              go_wp2_with fail
              refine (even_any l _ _ HT2.out HM.out true HEV.out).mono ?_
              rintro e w3 ⟨rfl, c3⟩
              have b3 := early2 b2 c3
              have HT3 := Lib.hid (HT.out.below b3)
              clear c3 b2 HT2
              go_wp2_with fail
              refine (refEven_any l _ _ HT3.out HM.out HZ.out true HEV.out).mono ?_
              rintro e w4 ⟨rfl, c4⟩
              have b4 := early2 b3 c4
              have HT4 := Lib.hid (HT.out.below b4)
              clear c4 b3 HT3
              go_wp2_with fail
              refine (blank_any p _ HPS.out bp HBP.out).mono ?_
              rintro e wq ⟨rfl, rfl⟩
              go_wp2_with fail
              refine (refZeros_any p _ HPS.out bp HBP.out).mono ?_
              rintro e wq ⟨rfl, rfl⟩
              go_wp2_with fail
              refine (refEven_any l _ _ HT4.out HM.out HZ.out true HEV.out).mono ?_
              rintro e w5 ⟨rfl, c5⟩
              have b5 := early2 b4 c5
              have HT5 := Lib.hid (HT.out.below b5)
              clear c5 b4 HT4
              go_wp2_with fail
              refine (refXor_any l _ _ HT5.out HM.out HO.out HS4.out).mono ?_
              rw [HP.out]
              rintro e w6 ⟨rfl, c6⟩
              have b6 := early2 b5 c6
              have HT6 := Lib.hid (HT.out.below b6)
              clear c6 b5 HT5
              go_wp2_with fail
              refine (right_any p l _ _ HT6.out HM.out HZ.out (p.toList == P.toList) HR.out).mono ?_
              rintro e w7 ⟨rfl, c7⟩
              have b7 := early2 b6 c7
              have HT7 := Lib.hid (HT.out.below b7)
              clear c7 b6 HT6
              go_wp2
              go_ret
              exact ⟨by simp, b7⟩
            · skip
              by_cases hA3 : (n : Int) ≤ at_
              · have HA : Hid (n < 2 ∨ at_ < 0 ∨ (n : Int) ≤ at_) := Lib.hid (.inr (.inr hA3))
                go_wp2_with fail
                refine (make_any l _ _ HT1.out HM.out HZ.out).mono ?_
                rw [HMK.out.1, HMK.out.2]
                rintro e w2 ⟨rfl, c2⟩
                have b2 := early2 b1 c2
                have HT2 := Lib.hid (HT.out.below b2)
                clear c2 b1 HT1
                go_wp2_with fail
                refine (again_no _ _ _ _ _ HA.out).mono ?_
                rintro e wq ⟨rfl, rfl⟩
                go_wp2_with fail
                refine (even_any l _ _ HT2.out HM.out true HEV.out).mono ?_
                rintro e w3 ⟨rfl, c3⟩
                have b3 := early2 b2 c3
                have HT3 := Lib.hid (HT.out.below b3)
                clear c3 b2 HT2
                go_wp2_with fail
                refine (refEven_any l _ _ HT3.out HM.out HZ.out true HEV.out).mono ?_
                rintro e w4 ⟨rfl, c4⟩
                have b4 := early2 b3 c4
                have HT4 := Lib.hid (HT.out.below b4)
                clear c4 b3 HT3
                go_wp2_with fail
                refine (blank_any p _ HPS.out bp HBP.out).mono ?_
                rintro e wq ⟨rfl, rfl⟩
                go_wp2_with fail
                refine (refZeros_any p _ HPS.out bp HBP.out).mono ?_
                rintro e wq ⟨rfl, rfl⟩
                go_wp2_with fail
                refine (refEven_any l _ _ HT4.out HM.out HZ.out true HEV.out).mono ?_
                rintro e w5 ⟨rfl, c5⟩
                have b5 := early2 b4 c5
                have HT5 := Lib.hid (HT.out.below b5)
                clear c5 b4 HT4
                go_wp2_with fail
                refine (refXor_any l _ _ HT5.out HM.out HO.out HS4.out).mono ?_
                rw [HP.out]
                rintro e w6 ⟨rfl, c6⟩
                have b6 := early2 b5 c6
                have HT6 := Lib.hid (HT.out.below b6)
                clear c6 b5 HT5
                go_wp2_with fail
                refine (right_any p l _ _ HT6.out HM.out HZ.out (p.toList == P.toList) HR.out).mono ?_
                rintro e w7 ⟨rfl, c7⟩
                have b7 := early2 b6 c7
                have HT7 := Lib.hid (HT.out.below b7)
                clear c7 b6 HT6
                go_wp2
                go_ret
                exact ⟨by simp, b7⟩
              · skip
                obtain ⟨k, rfl⟩ := Int.eq_ofNat_of_zero_le (show 0 ≤ at_ by omega)
                have hkn : k < n := by omega
                have hn2 : 2 ≤ n := by omega
                have hq1 : decide ((n : Int) < 2) = false := by rw [decide_eq_false_iff_not]; omega
                have hq2 : decide ((k : Int) < 0) = false := by rw [decide_eq_false_iff_not]; omega
                have hq3 : decide ((n : Int) ≤ (k : Int)) = false := by rw [decide_eq_false_iff_not]; omega
                have hok2 := HE1.out k hkn hn2
                clear hA1 hA2 hA3
                by_cases he2 : evenL (l.eraseIdx k) = true
                · rw [he2] at hok2
                  have HEV2 := Lib.hid he2
                  have HO2 := Lib.hid hok2
                  have HAK := Lib.hid (mk_ok hok2)
                  obtain ⟨P2, hP2⟩ : ∃ P, parB (l.eraseIdx k) = P := ⟨_, rfl⟩
                  have HP2 := Lib.hid hP2
                  rw [hP2] at HAK
                  clear hok2 he2 hP2
                  go_wp2_with fail
                  refine (make_any l _ _ HT1.out HM.out HZ.out).mono ?_
                  rw [HMK.out.1, HMK.out.2]
                  rintro e w2 ⟨rfl, c2⟩
                  have b2 := early2 b1 c2
                  have HT2 := Lib.hid (HT.out.below b2)
                  clear c2 b1 HT1
                  go_wp2_with fail
                  refine (again_any l _ n c (k : Int) _ HT2.out (by omega) HZ.out k rfl hkn hn2).mono ?_
                  rw [HAK.out.1, HAK.out.2]
                  rintro e w3 ⟨rfl, c3⟩
                  have b3 := early2 b2 c3
                  have HT3 := Lib.hid (HT.out.below b3)
                  clear c3 b2 HT2
                  go_wp2_with fail
                  refine (even_any l _ _ HT3.out HM.out true HEV.out).mono ?_
                  rintro e w4 ⟨rfl, c4⟩
                  have b4 := early2 b3 c4
                  have HT4 := Lib.hid (HT.out.below b4)
                  clear c4 b3 HT3
                  go_wp2_with fail
                  refine (refEven_any l _ _ HT4.out HM.out HZ.out true HEV.out).mono ?_
                  rintro e w5 ⟨rfl, c5⟩
                  have b5 := early2 b4 c5
                  have HT5 := Lib.hid (HT.out.below b5)
                  clear c5 b4 HT4
                  go_wp2_with fail
                  refine (blank_any p _ HPS.out bp HBP.out).mono ?_
                  rintro e wq ⟨rfl, rfl⟩
                  go_wp2_with fail
                  refine (refZeros_any p _ HPS.out bp HBP.out).mono ?_
                  rintro e wq ⟨rfl, rfl⟩
                  go_wp2_with fail
                  refine (refEven_any l _ _ HT5.out HM.out HZ.out true HEV.out).mono ?_
                  rintro e w6 ⟨rfl, c6⟩
                  have b6 := early2 b5 c6
                  have HT6 := Lib.hid (HT.out.below b6)
                  clear c6 b5 HT5
                  go_wp2_with fail
                  refine (refXor_any l _ _ HT6.out HM.out HO.out HS4.out).mono ?_
                  rw [HP.out]
                  rintro e w7 ⟨rfl, c7⟩
                  have b7 := early2 b6 c7
                  have HT7 := Lib.hid (HT.out.below b7)
                  clear c7 b6 HT6
                  go_wp2_with fail
                  refine (right_any p l _ _ HT7.out HM.out HZ.out (p.toList == P.toList) HR.out).mono ?_
                  rintro e w8 ⟨rfl, c8⟩
                  have b8 := early2 b7 c8
                  have HT8 := Lib.hid (HT.out.below b8)
                  clear c8 b7 HT7
                  go_wp2_with fail
                  refine (without_any l _ n c (k : Int) _ HT8.out (by omega) k rfl hkn).mono ?_
                  rintro e w9 ⟨a2, m2, c2, rfl, hT2, c9⟩
                  have b9 := early2 b8 c9
                  have HT9 := Lib.hid (HT.out.below b9)
                  clear c9 b8 HT8
                  go_wp2_with fail
                  refine (refEven_any (l.eraseIdx k) _ _ hT2 (HLE.out k) (fun s hs => Nat.le_trans (HZE.out k s hs) (by decide)) true HEV2.out).mono ?_
                  rintro e w10 ⟨rfl, c10⟩
                  have b10 := early2 b9 c10
                  have HT10 := Lib.hid (HT.out.below b10)
                  clear c10 b9 HT9
                  clear hT2
                  go_wp2_with fail
                  refine (without_any l _ n c (k : Int) _ HT10.out (by omega) k rfl hkn).mono ?_
                  rintro e w11 ⟨a3, m3, c3, rfl, hT3, c11⟩
                  have b11 := early2 b10 c11
                  have HT11 := Lib.hid (HT.out.below b11)
                  clear c11 b10 HT10
                  go_wp2_with fail
                  refine (refXor_any (l.eraseIdx k) _ _ hT3 (HLE.out k) HO2.out (HZE.out k)).mono ?_
                  rw [HP2.out]
                  rintro e w12 ⟨rfl, c12⟩
                  have b12 := early2 b11 c12
                  have HT12 := Lib.hid (HT.out.below b12)
                  clear c12 b11 HT11
                  go_wp2
                  go_ret
                  exact ⟨by simp, b12⟩
                · have he3 : evenL (l.eraseIdx k) = false := by simpa using he2
                  rw [he3] at hok2
                  have HEV2 := Lib.hid he3
                  have HAK := Lib.hid (mk_no hok2)
                  clear hok2 he2 he3
                  go_wp2_with fail
                  refine (make_any l _ _ HT1.out HM.out HZ.out).mono ?_
                  rw [HMK.out.1, HMK.out.2]
                  rintro e w2 ⟨rfl, c2⟩
                  have b2 := early2 b1 c2
                  have HT2 := Lib.hid (HT.out.below b2)
                  clear c2 b1 HT1
                  go_wp2_with fail
                  refine (again_any l _ n c (k : Int) _ HT2.out (by omega) HZ.out k rfl hkn hn2).mono ?_
                  rw [HAK.out.1, HAK.out.2]
                  rintro e w3 ⟨rfl, c3⟩
                  have b3 := early2 b2 c3
                  have HT3 := Lib.hid (HT.out.below b3)
                  clear c3 b2 HT2
                  go_wp2_with fail
                  refine (even_any l _ _ HT3.out HM.out true HEV.out).mono ?_
                  rintro e w4 ⟨rfl, c4⟩
                  have b4 := early2 b3 c4
                  have HT4 := Lib.hid (HT.out.below b4)
                  clear c4 b3 HT3
                  go_wp2_with fail
                  refine (refEven_any l _ _ HT4.out HM.out HZ.out true HEV.out).mono ?_
                  rintro e w5 ⟨rfl, c5⟩
                  have b5 := early2 b4 c5
                  have HT5 := Lib.hid (HT.out.below b5)
                  clear c5 b4 HT4
                  go_wp2_with fail
                  refine (blank_any p _ HPS.out bp HBP.out).mono ?_
                  rintro e wq ⟨rfl, rfl⟩
                  go_wp2_with fail
                  refine (refZeros_any p _ HPS.out bp HBP.out).mono ?_
                  rintro e wq ⟨rfl, rfl⟩
                  go_wp2_with fail
                  refine (refEven_any l _ _ HT5.out HM.out HZ.out true HEV.out).mono ?_
                  rintro e w6 ⟨rfl, c6⟩
                  have b6 := early2 b5 c6
                  have HT6 := Lib.hid (HT.out.below b6)
                  clear c6 b5 HT5
                  go_wp2_with fail
                  refine (refXor_any l _ _ HT6.out HM.out HO.out HS4.out).mono ?_
                  rw [HP.out]
                  rintro e w7 ⟨rfl, c7⟩
                  have b7 := early2 b6 c7
                  have HT7 := Lib.hid (HT.out.below b7)
                  clear c7 b6 HT6
                  go_wp2_with fail
                  refine (right_any p l _ _ HT7.out HM.out HZ.out (p.toList == P.toList) HR.out).mono ?_
                  rintro e w8 ⟨rfl, c8⟩
                  have b8 := early2 b7 c8
                  have HT8 := Lib.hid (HT.out.below b8)
                  clear c8 b7 HT7
                  go_wp2_with fail
                  refine (without_any l _ n c (k : Int) _ HT8.out (by omega) k rfl hkn).mono ?_
                  rintro e w9 ⟨a2, m2, c2, rfl, hT2, c9⟩
                  have b9 := early2 b8 c9
                  have HT9 := Lib.hid (HT.out.below b9)
                  clear c9 b8 HT8
                  go_wp2_with fail
                  refine (refEven_any (l.eraseIdx k) _ _ hT2 (HLE.out k) (fun s hs => Nat.le_trans (HZE.out k s hs) (by decide)) false HEV2.out).mono ?_
                  rintro e w10 ⟨rfl, c10⟩
                  have b10 := early2 b9 c10
                  have HT10 := Lib.hid (HT.out.below b10)
                  clear c10 b9 HT9
                  clear hT2
                  go_wp2
                  go_ret
                  exact ⟨by simp, b10⟩
        · have he3 : evenL l = false := by simpa using he
          rw [he3] at hok
          have HEV := Lib.hid he3
          have HMK := Lib.hid (mk_no hok)
          have HR : Hid ((okL l && decide (p = parB l)) = false) := Lib.hid (by rw [hok, Bool.false_and])
          clear hok he he3
          by_cases hA1 : n < 2
          · have HA : Hid (n < 2 ∨ at_ < 0 ∨ (n : Int) ≤ at_) := Lib.hid (.inl hA1)
            go_wp2_with fail
            refine (make_any l _ _ HT1.out HM.out HZ.out).mono ?_
            rw [HMK.out.1, HMK.out.2]
            rintro e w2 ⟨rfl, c2⟩
            have b2 := early2 b1 c2
            have HT2 := Lib.hid (HT.out.below b2)
            clear c2 b1 HT1
            go_wp2_with fail
            refine (again_no _ _ _ _ _ HA.out).mono ?_
            rintro e wq ⟨rfl, rfl⟩
            go_wp2_with fail
            refine (even_any l _ _ HT2.out HM.out false HEV.out).mono ?_
            rintro e w3 ⟨rfl, c3⟩
            have b3 := early2 b2 c3
            have HT3 := Lib.hid (HT.out.below b3)
            clear c3 b2 HT2
            go_wp2_with fail
            refine (refEven_any l _ _ HT3.out HM.out HZ.out false HEV.out).mono ?_
            rintro e w4 ⟨rfl, c4⟩
            have b4 := early2 b3 c4
            have HT4 := Lib.hid (HT.out.below b4)
            clear c4 b3 HT3
            go_wp2_with fail
            refine (blank_any p _ HPS.out bp HBP.out).mono ?_
            rintro e wq ⟨rfl, rfl⟩
            go_wp2_with fail
            refine (refZeros_any p _ HPS.out bp HBP.out).mono ?_
            rintro e wq ⟨rfl, rfl⟩
            go_wp2_with fail
            refine (refEven_any l _ _ HT4.out HM.out HZ.out false HEV.out).mono ?_
            rintro e w5 ⟨rfl, c5⟩
            have b5 := early2 b4 c5
            have HT5 := Lib.hid (HT.out.below b5)
            clear c5 b4 HT4
            go_wp2_with fail
            refine (right_any p l _ _ HT5.out HM.out HZ.out false HR.out).mono ?_
            rintro e w6 ⟨rfl, c6⟩
            have b6 := early2 b5 c6
            have HT6 := Lib.hid (HT.out.below b6)
            clear c6 b5 HT5
            go_wp2
            go_ret
            exact ⟨by simp, b6⟩
          · skip
            by_cases hA2 : at_ < 0
            · have HA : Hid (n < 2 ∨ at_ < 0 ∨ (n : Int) ≤ at_) := Lib.hid (.inr (.inl hA2))
              go_wp2_with fail
              refine (make_any l _ _ HT1.out HM.out HZ.out).mono ?_
              rw [HMK.out.1, HMK.out.2]
              rintro e w2 ⟨rfl, c2⟩
              have b2 := early2 b1 c2
              have HT2 := Lib.hid (HT.out.below b2)
              clear c2 b1 HT1
              go_wp2_with fail
              refine (again_no _ _ _ _ _ HA.out).mono ?_
              rintro e wq ⟨rfl, rfl⟩
              go_wp2_with fail
              refine (even_any l _ _ HT2.out HM.out false HEV.out).mono ?_
              rintro e w3 ⟨rfl, c3⟩
              have b3 := early2 b2 c3
              have HT3 := Lib.hid (HT.out.below b3)
              clear c3 b2 HT2
              go_wp2_with fail
              refine (refEven_any l _ _ HT3.out HM.out HZ.out false HEV.out).mono ?_
              rintro e w4 ⟨rfl, c4⟩
              have b4 := early2 b3 c4
              have HT4 := Lib.hid (HT.out.below b4)
              clear c4 b3 HT3
              go_wp2_with fail
              refine (blank_any p _ HPS.out bp HBP.out).mono ?_
              rintro e wq ⟨rfl, rfl⟩
              go_wp2_with fail
              refine (refZeros_any p _ HPS.out bp HBP.out).mono ?_
              rintro e wq ⟨rfl, rfl⟩
              go_wp2_with fail
              refine (refEven_any l _ _ HT4.out HM.out HZ.out false HEV.out).mono ?_
              rintro e w5 ⟨rfl, c5⟩
              have b5 := early2 b4 c5
              have HT5 := Lib.hid (HT.out.below b5)
              clear c5 b4 HT4
              go_wp2_with fail
              refine (right_any p l _ _ HT5.out HM.out HZ.out false HR.out).mono ?_
              rintro e w6 ⟨rfl, c6⟩
              have b6 := early2 b5 c6
              have HT6 := Lib.hid (HT.out.below b6)
              clear c6 b5 HT5
              go_wp2
              go_ret
              exact ⟨by simp, b6⟩
            · skip
              by_cases hA3 : (n : Int) ≤ at_
              · have HA : Hid (n < 2 ∨ at_ < 0 ∨ (n : Int) ≤ at_) := Lib.hid (.inr (.inr hA3))
                go_wp2_with fail
                refine (make_any l _ _ HT1.out HM.out HZ.out).mono ?_
                rw [HMK.out.1, HMK.out.2]
                rintro e w2 ⟨rfl, c2⟩
                have b2 := early2 b1 c2
                have HT2 := Lib.hid (HT.out.below b2)
                clear c2 b1 HT1
                go_wp2_with fail
                refine (again_no _ _ _ _ _ HA.out).mono ?_
                rintro e wq ⟨rfl, rfl⟩
                go_wp2_with fail
                refine (even_any l _ _ HT2.out HM.out false HEV.out).mono ?_
                rintro e w3 ⟨rfl, c3⟩
                have b3 := early2 b2 c3
                have HT3 := Lib.hid (HT.out.below b3)
                clear c3 b2 HT2
                go_wp2_with fail
                refine (refEven_any l _ _ HT3.out HM.out HZ.out false HEV.out).mono ?_
                rintro e w4 ⟨rfl, c4⟩
                have b4 := early2 b3 c4
                have HT4 := Lib.hid (HT.out.below b4)
                clear c4 b3 HT3
                go_wp2_with fail
                refine (blank_any p _ HPS.out bp HBP.out).mono ?_
                rintro e wq ⟨rfl, rfl⟩
                go_wp2_with fail
                refine (refZeros_any p _ HPS.out bp HBP.out).mono ?_
                rintro e wq ⟨rfl, rfl⟩
                go_wp2_with fail
                refine (refEven_any l _ _ HT4.out HM.out HZ.out false HEV.out).mono ?_
                rintro e w5 ⟨rfl, c5⟩
                have b5 := early2 b4 c5
                have HT5 := Lib.hid (HT.out.below b5)
                clear c5 b4 HT4
                go_wp2_with fail
                refine (right_any p l _ _ HT5.out HM.out HZ.out false HR.out).mono ?_
                rintro e w6 ⟨rfl, c6⟩
                have b6 := early2 b5 c6
                have HT6 := Lib.hid (HT.out.below b6)
                clear c6 b5 HT5
                go_wp2
                go_ret
                exact ⟨by simp, b6⟩
              · skip
                obtain ⟨k, rfl⟩ := Int.eq_ofNat_of_zero_le (show 0 ≤ at_ by omega)
                have hkn : k < n := by omega
                have hn2 : 2 ≤ n := by omega
                have hq1 : decide ((n : Int) < 2) = false := by rw [decide_eq_false_iff_not]; omega
                have hq2 : decide ((k : Int) < 0) = false := by rw [decide_eq_false_iff_not]; omega
                have hq3 : decide ((n : Int) ≤ (k : Int)) = false := by rw [decide_eq_false_iff_not]; omega
                have hok2 := HE1.out k hkn hn2
                clear hA1 hA2 hA3
                by_cases he2 : evenL (l.eraseIdx k) = true
                · rw [he2] at hok2
                  have HEV2 := Lib.hid he2
                  have HO2 := Lib.hid hok2
                  have HAK := Lib.hid (mk_ok hok2)
                  obtain ⟨P2, hP2⟩ : ∃ P, parB (l.eraseIdx k) = P := ⟨_, rfl⟩
                  have HP2 := Lib.hid hP2
                  rw [hP2] at HAK
                  clear hok2 he2 hP2
                  go_wp2_with fail
                  refine (make_any l _ _ HT1.out HM.out HZ.out).mono ?_
                  rw [HMK.out.1, HMK.out.2]
                  rintro e w2 ⟨rfl, c2⟩
                  have b2 := early2 b1 c2
                  have HT2 := Lib.hid (HT.out.below b2)
                  clear c2 b1 HT1
                  go_wp2_with fail
                  refine (again_any l _ n c (k : Int) _ HT2.out (by omega) HZ.out k rfl hkn hn2).mono ?_
                  rw [HAK.out.1, HAK.out.2]
                  rintro e w3 ⟨rfl, c3⟩
                  have b3 := early2 b2 c3
                  have HT3 := Lib.hid (HT.out.below b3)
                  clear c3 b2 HT2
                  go_wp2_with fail
                  refine (even_any l _ _ HT3.out HM.out false HEV.out).mono ?_
                  rintro e w4 ⟨rfl, c4⟩
                  have b4 := early2 b3 c4
                  have HT4 := Lib.hid (HT.out.below b4)
                  clear c4 b3 HT3
                  go_wp2_with fail
                  refine (refEven_any l _ _ HT4.out HM.out HZ.out false HEV.out).mono ?_
                  rintro e w5 ⟨rfl, c5⟩
                  have b5 := early2 b4 c5
                  have HT5 := Lib.hid (HT.out.below b5)
                  clear c5 b4 HT4
                  go_wp2_with fail
                  refine (blank_any p _ HPS.out bp HBP.out).mono ?_
                  rintro e wq ⟨rfl, rfl⟩
                  go_wp2_with fail
                  refine (refZeros_any p _ HPS.out bp HBP.out).mono ?_
                  rintro e wq ⟨rfl, rfl⟩
                  go_wp2_with fail
                  refine (refEven_any l _ _ HT5.out HM.out HZ.out false HEV.out).mono ?_
                  rintro e w6 ⟨rfl, c6⟩
                  have b6 := early2 b5 c6
                  have HT6 := Lib.hid (HT.out.below b6)
                  clear c6 b5 HT5
                  go_wp2_with fail
                  refine (right_any p l _ _ HT6.out HM.out HZ.out false HR.out).mono ?_
                  rintro e w7 ⟨rfl, c7⟩
                  have b7 := early2 b6 c7
                  have HT7 := Lib.hid (HT.out.below b7)
                  clear c7 b6 HT6
                  go_wp2_with fail
                  refine (without_any l _ n c (k : Int) _ HT7.out (by omega) k rfl hkn).mono ?_
                  rintro e w8 ⟨a2, m2, c2, rfl, hT2, c8⟩
                  have b8 := early2 b7 c8
                  have HT8 := Lib.hid (HT.out.below b8)
                  clear c8 b7 HT7
                  go_wp2_with fail
                  refine (refEven_any (l.eraseIdx k) _ _ hT2 (HLE.out k) (fun s hs => Nat.le_trans (HZE.out k s hs) (by decide)) true HEV2.out).mono ?_
                  rintro e w9 ⟨rfl, c9⟩
                  have b9 := early2 b8 c9
                  have HT9 := Lib.hid (HT.out.below b9)
                  clear c9 b8 HT8
                  clear hT2
                  go_wp2_with fail
                  refine (without_any l _ n c (k : Int) _ HT9.out (by omega) k rfl hkn).mono ?_
                  rintro e w10 ⟨a3, m3, c3, rfl, hT3, c10⟩
                  have b10 := early2 b9 c10
                  have HT10 := Lib.hid (HT.out.below b10)
                  clear c10 b9 HT9
                  go_wp2_with fail
                  refine (refXor_any (l.eraseIdx k) _ _ hT3 (HLE.out k) HO2.out (HZE.out k)).mono ?_
                  rw [HP2.out]
                  rintro e w11 ⟨rfl, c11⟩
                  have b11 := early2 b10 c11
                  have HT11 := Lib.hid (HT.out.below b11)
                  clear c11 b10 HT10
                  go_wp2
                  go_ret
                  exact ⟨by simp, b11⟩
                · have he3 : evenL (l.eraseIdx k) = false := by simpa using he2
                  rw [he3] at hok2
                  have HEV2 := Lib.hid he3
                  have HAK := Lib.hid (mk_no hok2)
                  clear hok2 he2 he3
                  go_wp2_with fail
                  refine (make_any l _ _ HT1.out HM.out HZ.out).mono ?_
                  rw [HMK.out.1, HMK.out.2]
                  rintro e w2 ⟨rfl, c2⟩
                  have b2 := early2 b1 c2
                  have HT2 := Lib.hid (HT.out.below b2)
                  clear c2 b1 HT1
                  go_wp2_with fail
                  refine (again_any l _ n c (k : Int) _ HT2.out (by omega) HZ.out k rfl hkn hn2).mono ?_
                  rw [HAK.out.1, HAK.out.2]
                  rintro e w3 ⟨rfl, c3⟩
                  have b3 := early2 b2 c3
                  have HT3 := Lib.hid (HT.out.below b3)
                  clear c3 b2 HT2
                  go_wp2_with fail
                  refine (even_any l _ _ HT3.out HM.out false HEV.out).mono ?_
                  rintro e w4 ⟨rfl, c4⟩
                  have b4 := early2 b3 c4
                  have HT4 := Lib.hid (HT.out.below b4)
                  clear c4 b3 HT3
                  go_wp2_with fail
                  refine (refEven_any l _ _ HT4.out HM.out HZ.out false HEV.out).mono ?_
                  rintro e w5 ⟨rfl, c5⟩
                  have b5 := early2 b4 c5
                  have HT5 := Lib.hid (HT.out.below b5)
                  clear c5 b4 HT4
                  go_wp2_with fail
                  refine (blank_any p _ HPS.out bp HBP.out).mono ?_
                  rintro e wq ⟨rfl, rfl⟩
                  go_wp2_with fail
                  refine (refZeros_any p _ HPS.out bp HBP.out).mono ?_
                  rintro e wq ⟨rfl, rfl⟩
                  go_wp2_with fail
                  refine (refEven_any l _ _ HT5.out HM.out HZ.out false HEV.out).mono ?_
                  rintro e w6 ⟨rfl, c6⟩
                  have b6 := early2 b5 c6
                  have HT6 := Lib.hid (HT.out.below b6)
                  clear c6 b5 HT5
                  go_wp2_with fail
                  refine (right_any p l _ _ HT6.out HM.out HZ.out false HR.out).mono ?_
                  rintro e w7 ⟨rfl, c7⟩
                  have b7 := early2 b6 c7
                  have HT7 := Lib.hid (HT.out.below b7)
                  clear c7 b6 HT6
                  go_wp2_with fail
                  refine (without_any l _ n c (k : Int) _ HT7.out (by omega) k rfl hkn).mono ?_
                  rintro e w8 ⟨a2, m2, c2, rfl, hT2, c8⟩
                  have b8 := early2 b7 c8
                  have HT8 := Lib.hid (HT.out.below b8)
                  clear c8 b7 HT7
                  go_wp2_with fail
                  refine (refEven_any (l.eraseIdx k) _ _ hT2 (HLE.out k) (fun s hs => Nat.le_trans (HZE.out k s hs) (by decide)) false HEV2.out).mono ?_
                  rintro e w9 ⟨rfl, c9⟩
                  have b9 := early2 b8 c9
                  have HT9 := Lib.hid (HT.out.below b9)
                  clear c9 b8 HT8
                  clear hT2
                  go_wp2
                  go_ret
                  exact ⟨by simp, b9⟩
end Go.Proofs.Ytckfhphobjjojaa
