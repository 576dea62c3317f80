/-
  The walk of polderlaw03.ParSums: it returns true, and writes nothing that was there.
-/
import Derived.Test.YtckfhphobjjojaaPs
namespace Go.Proofs.Ytckfhphobjjojaa
open Go.RowKit M

set_option maxHeartbeats 4000000 in
theorem walk_ParSums (a : Option Addr) (n c : Nat) (b : Option Addr) (m d : Nat) (w : World) (h : ∃ l : List ByteArray, Txt w (.slice a n c) l ∧ n ≤ maxLen ∧ ∀ s ∈ l, s.size ≤ maxLen)
    (h' : ∃ l : List ByteArray, Txt w (.slice b m d) l ∧ m ≤ maxLen ∧ ∀ s ∈ l, s.size ≤ maxLen) :
    Calls Try.prog 6 #[.slice a n c, .slice b m d] w fun e w' => e = .returned (.bool true) ∧ Below w.heap.size w w' := by
  obtain ⟨l, hT, hm, hz⟩ := h
  obtain ⟨k, hT', hm', hz'⟩ := h'
  have HN := Lib.hid hT.len
  have HN' := Lib.hid hT'.len
  have HM : Hid (l.length ≤ maxLen) := Lib.hid (by rw [HN.out]; exact hm)
  have HM' : Hid (k.length ≤ maxLen) := Lib.hid (by rw [HN'.out]; exact hm')
  have HT := Lib.hid hT
  have HT' := Lib.hid hT'
  have HZ := Lib.hid hz
  have HZ' := Lib.hid hz'
  unfold maxLen at hm hm'
  clear hT hz hT' hz'
  go_enter Try.func6, Try.ntmps6
  go_wp2_with fail
  refine (awake_any _).mono ?_
  rintro e w1 ⟨rfl, b1⟩
  have HT1 := Lib.hid (HT.out.below b1)
  have HT1' := Lib.hid (HT'.out.below b1)
  cases hf : fewL l with
  | false =>
    go_wp2_with fail
    refine (few_any l _ _ HT1.out HM.out HZ.out false hf).mono ?_
    rintro e w2 ⟨rfl, rfl⟩
    clear hf
    go_wp2_with fail
    refine (awake_any _).mono ?_
    rintro e w3 ⟨rfl, b3⟩
    go_wp2
    go_ret
    exact ⟨rfl, early2 b1 b3⟩
  | true =>
    go_wp2_with fail
    refine (few_any l _ _ HT1.out HM.out HZ.out true hf).mono ?_
    rintro e w2 ⟨rfl, rfl⟩
    obtain ⟨hl30, hs4⟩ := few_short hf
    have HS4 := Lib.hid hs4
    have hn30 : n < 30 := by rw [← HN.out]; exact hl30
    clear hf hl30 hs4
    cases hf : fewL k with
    | false =>
      go_wp2_with fail
      refine (few_any k _ _ HT1'.out HM'.out HZ'.out false hf).mono ?_
      rintro e w2 ⟨rfl, rfl⟩
      clear hf
      go_wp2_with fail
      refine (awake_any _).mono ?_
      rintro e w3 ⟨rfl, b3⟩
      go_wp2
      go_ret
      exact ⟨rfl, early2 b1 b3⟩
    | true =>
      go_wp2_with fail
      refine (few_any k _ _ HT1'.out HM'.out HZ'.out true hf).mono ?_
      rintro e w2 ⟨rfl, rfl⟩
      obtain ⟨hl30, hs4⟩ := few_short hf
      have HS4' := Lib.hid hs4
      have hm30 : m < 30 := by rw [← HN'.out]; exact hl30
      clear hf hl30 hs4
      by_cases hn0 : n = 0
      · subst hn0
        go_wp2_with fail
        refine (awake_any _).mono ?_
        rintro e w3 ⟨rfl, b3⟩
        go_wp2
        go_ret
        exact ⟨rfl, early2 b1 b3⟩
      · have hn0' : ((n : Int) == 0) = false := by rw [beq_eq_false_iff_ne]; omega
        by_cases hm0 : m = 0
        · subst hm0
          go_wp2_with fail
          refine (awake_any _).mono ?_
          rintro e w3 ⟨rfl, b3⟩
          go_wp2
          go_ret
          exact ⟨rfl, early2 b1 b3⟩
        · have hm0' : ((m : Int) == 0) = false := by rw [beq_eq_false_iff_ne]; omega
          have hB1 : w.heap.size ≤ w1.heap.size := b1.size
          have hO0 := own_none w1 w.heap.size hB1
          have hT3 := HT1.out.alloc (.cells #[] 9)
          go_wp2_with (first
            | (at_builtin; refine wpList_append_txt _ rfl (.tmp 39) (.tmp 40) rfl w.heap.size _ _ [] l l n rfl rfl rfl HN.out hO0 hT3 (by simp; omega) (by omega) ?_; intro a4 c4 w4 hO4 b4 s4; have b04 := (b1.alloc hB1 _).trans b4)
            | (at_builtin; refine wpList_append_txt _ rfl (.tmp 41) (.tmp 42) rfl w.heap.size _ _ l k (l ++ k) (n + m) rfl rfl rfl (by simp [HN.out, HN'.out]) hO4 (HT'.out.below b04) (by simp at s4; omega) (by omega) ?_; intro a5 c5 w5 hO5 b5 s5))
          have b05 : Below w.heap.size w w5 := b04.trans b5
          have HO5 := Lib.hid hO5
          have hlk : l ++ k ≠ [] := by
            intro e
            have := congrArg List.length e
            rw [List.length_append, HN.out] at this
            simp at this
            omega
          have hzl : ∀ s ∈ l ++ k, s.size ≤ 4000 := fun s hs => by
            rcases List.mem_append.1 hs with h1 | h1
            · exact HS4.out s h1
            · exact HS4'.out s h1
          have HZL : Hid (∀ s ∈ l ++ k, s.size ≤ maxLen) := Lib.hid fun s hs => Nat.le_trans (hzl s hs) (by decide)
          have HLL : Hid ((l ++ k).length ≤ maxLen) := Lib.hid (by rw [List.length_append, HN.out, HN'.out]; unfold maxLen; omega)
          refine (make_any (l ++ k) _ _ hO5.txt HLL.out HZL.out).mono ?_
          clear hO5 hO4 hO0 hT3 b4 s4 b5 s5 b04 HT1 HT1' b1 hB1
          rintro e w6 ⟨rfl, b6⟩
          have HO6 := Lib.hid (HO5.out.below b6)
          have b06 := early2 b05 b6
          clear HO5 b05 b6
          cases ho : okL (l ++ k) with
          | false =>
            obtain ⟨h1, h2⟩ := mk_no ho
            rw [h1, h2]
            have HE : Hid (evenL (l ++ k) = false) := Lib.hid (by
              cases e : evenL (l ++ k) with
              | false => rfl
              | true => rw [ok_iff.2 ⟨hlk, e⟩] at ho; cases ho)
            clear h1 h2 ho hlk hzl
            go_wp2_with fail
            refine (even_any _ _ _ HO6.out.txt HLL.out false HE.out).mono ?_
            rintro e w7 ⟨rfl, b7⟩
            go_wp2
            go_ret
            exact ⟨rfl, early2 b06 b7⟩
          | true =>
            obtain ⟨h1, h2⟩ := mk_ok ho
            rw [h1, h2]
            have hln : l ≠ [] := fun e => hn0 (by rw [← HN.out, e]; rfl)
            have hkn : k ≠ [] := fun e => hm0 (by rw [← HN'.out, e]; rfl)
            obtain ⟨p1, p2, p3, p4, p5, p6⟩ := sums_par hln hkn ho
            have hA := par_small ho hzl
            have hX := par_small p1 HS4.out
            have hY := par_small p2 HS4'.out
            have HP1 := Lib.hid (mk_ok p1)
            have HP2 := Lib.hid (mk_ok p2)
            have HP3 := Lib.hid (mk_ok p3)
            have HP5 := Lib.hid (mk_ok p5)
            rw [p4] at HP3
            rw [p6] at HP5
            clear h1 h2 ho hlk p1 p2 p3 p4 p5 p6 hln hkn
            generalize parB (l ++ k) = A at hA HP3 HP5 ⊢
            generalize parB l = X at hX HP1 HP3
            generalize parB k = Y at hY HP2 HP3
            have HT6 := Lib.hid (HT.out.below b06)
            go_wp2_with fail
            refine (make_any l _ _ HT6.out HM.out HZ.out).mono ?_
            rw [HP1.out.1, HP1.out.2]
            rintro e w7 ⟨rfl, b7⟩
            have b07 := early2 b06 b7
            have HO7 := Lib.hid (HO6.out.below b7)
            have HT7 := Lib.hid (HT'.out.below b07)
            clear b06 b7 HO6 HT6
            go_wp2_with fail
            refine (make_any k _ _ HT7.out HM'.out HZ'.out).mono ?_
            rw [HP2.out.1, HP2.out.2]
            rintro e w8 ⟨rfl, b8⟩
            have b08 := early2 b07 b8
            have HO8 := Lib.hid (HO7.out.below b8)
            clear b07 b8 HO7 HT7
            go_wp2_with fail
            have hB8 : w.heap.size ≤ w8.heap.size := b08.size
            refine (make_any [X, Y] _ _ (txt_two w8 X Y) (by show 2 ≤ maxLen; decide) (fun s hs => ?_)).mono ?_
            · simp only [List.mem_cons, List.not_mem_nil, or_false] at hs
              unfold maxLen
              rcases hs with rfl | rfl <;> omega
            rw [HP3.out.1, HP3.out.2]
            rintro e w9 ⟨rfl, b9⟩
            have b09 := early2 (b08.alloc hB8 (.cells #[.string X, .string Y] 9)) b9
            have HO9 := Lib.hid ((HO8.out.alloc (.cells #[.string X, .string Y] 9)).below b9)
            clear b08 b9 HO8 hB8
            have hB9 : w.heap.size ≤ w9.heap.size := b09.size
            have hmz := make_zeros w9 A.size (by omega)
            have hcz := conv_zeros w9 A.size
            have HO10 := Lib.hid ((HO9.out.below (zerosW_below w9 A.size)).alloc (.cells #[.string (zeroB A.size)] 9))
            have b10 := (b09.trans ((zerosW_below w9 A.size).mono hB9))
            have hzz := zeroB_size A.size
            have HZA : Hid (∀ s ∈ l ++ k ++ [zeroB A.size], s.size ≤ maxLen) := Lib.hid fun s hs => by
              rcases List.mem_append.1 hs with h1 | h1
              · exact HZL.out s h1
              · rw [List.mem_singleton.1 h1, hzz]; unfold maxLen; omega
            generalize zeroB A.size = Z at hcz HO10 HP5 hzz HZA
            have hT10 := txt_one (zerosW w9 A.size) Z
            generalize hW : zerosW w9 A.size = w10 at hmz hcz HO10 b10 hT10
            have hB10 : w.heap.size ≤ w10.heap.size := b10.size
            clear hW hzz
            go_wp2_with (at_builtin; refine wpList_append_txt _ rfl (.tmp 72) (.tmp 77) rfl w.heap.size _ _ (l ++ k) [Z] (l ++ k ++ [Z]) (n + m + 1) rfl rfl rfl (by simp [HN.out, HN'.out]; omega) HO10.out hT10 (by simp; omega) (by omega) ?_; intro a11 c11 w11 hO11 b11 s11)
            have b011 := (b10.alloc hB10 (.cells #[.string Z] 9)).trans b11
            refine (make_any (l ++ k ++ [Z]) _ _ hO11.txt (by rw [hO11.txt.len]; unfold maxLen; omega) HZA.out).mono ?_
            rw [HP5.out.1, HP5.out.2]
            rintro e w12 ⟨rfl, b12⟩
            have b012 := early2 b011 b12
            go_wp2
            go_ret
            exact ⟨by simp, b012⟩
end Go.Proofs.Ytckfhphobjjojaa
