/-
  The walk of polderlaw03.ParAgain: it returns true, and writes nothing that was there.
-/
import Derived.Test.YtckfhphobjjojaaPg
namespace Go.Proofs.Ytckfhphobjjojaa
open Go.RowKit M

set_option maxHeartbeats 4000000 in
theorem walk_ParAgain (a : Option Addr) (n c : Nat) (I : Int) (t : ByteArray) (w : World) (h : ∃ l : List ByteArray, Txt w (.slice a n c) l ∧ n ≤ maxLen ∧ ∀ s ∈ l, s.size ≤ maxLen)
    (hI : (Lit.int .u8 I).wf = true) (ht : t.size ≤ maxLen) :
    Calls Try.prog 3 #[.slice a n c, .int .u8 I, .string t] w fun e w' => e = .returned (.bool true) ∧ Below w.heap.size w w' := by
  obtain ⟨l, hT, hm, hz⟩ := h
  obtain ⟨hI0, hI1⟩ := bounds_u8 hI
  obtain ⟨i, rfl⟩ := Int.eq_ofNat_of_zero_le hI0
  have HN := Lib.hid hT.len
  have HM : Hid (l.length ≤ maxLen) := Lib.hid (by rw [HN.out]; exact hm)
  have HT := Lib.hid hT
  have HZ := Lib.hid hz
  have HTS := Lib.hid ht
  unfold maxLen at hm
  clear hT hz hI hI0 ht
  go_enter Try.func3, Try.ntmps3
  go_wp2_with fail
  refine (awake_any _).mono ?_
  rintro e w1 ⟨rfl, b1⟩
  have HT1 := Lib.hid (HT.out.below b1)
  cases hf : fewL l with
  | false =>
    go_wp2_with fail
    refine (few_any l _ _ HT1.out HM.out HZ.out false hf).mono ?_
    rintro e w2 ⟨rfl, rfl⟩
    clear hf
    go_wp2_with fail
    refine (awake_any _).mono ?_
    rintro e w3 ⟨rfl, b3⟩
    go_wp2
    go_ret
    exact ⟨rfl, early2 b1 b3⟩
  | true =>
    go_wp2_with fail
    refine (few_any l _ _ HT1.out HM.out HZ.out true hf).mono ?_
    rintro e w2 ⟨rfl, rfl⟩
    obtain ⟨hl30, hs4⟩ := few_short hf
    have HS4 := Lib.hid hs4
    have hn30 : n < 30 := by rw [← HN.out]; exact hl30
    clear hf hl30 hs4
    cases ho : okL l with
    | false =>
      obtain ⟨h1, h2⟩ := mk_no ho
      go_wp2_with fail
      refine (make_any l _ _ HT1.out HM.out HZ.out).mono ?_
      rw [h1, h2]
      rintro e w2 ⟨rfl, b2⟩
      have b02 := early2 b1 b2
      by_cases hn0 : n = 0
      · subst hn0
        clear h1 h2 ho
        go_wp2
        go_ret
        exact ⟨rfl, b02⟩
      · have HE : Hid (evenL l = false) := Lib.hid (by
          cases e : evenL l with
          | false => rfl
          | true => rw [ok_iff.2 ⟨fun e => hn0 (by rw [← HN.out, e]; rfl), e⟩] at ho; cases ho)
        have hn0' : ((n : Int) == 0) = false := by rw [beq_eq_false_iff_ne]; omega
        have HT2 := Lib.hid (HT.out.below b02)
        clear h1 h2 ho
        go_wp2_with fail
        refine (even_any l _ _ HT2.out HM.out false HE.out).mono ?_
        rintro e w3 ⟨rfl, b3⟩
        go_wp2
        go_ret
        exact ⟨rfl, early2 b02 b3⟩
    | true =>
      obtain ⟨h1, h2⟩ := mk_ok ho
      have HO := Lib.hid ho
      have hn1 : 1 ≤ n := by
        rw [← HN.out]
        exact List.length_pos_iff.2 (ok_iff.1 ho).1
      go_wp2_with fail
      refine (make_any l _ _ HT1.out HM.out HZ.out).mono ?_
      rw [h1, h2]
      clear h1 h2 ho
      rintro e w2 ⟨rfl, b2⟩
      have b12 := early2 b1 b2
      have hB2 : w.heap.size ≤ w2.heap.size := b12.size
      have hO0 := own_none w2 w.heap.size hB2
      have hT3 := (HT.out.below b12).alloc (.cells #[] 9)
      obtain ⟨P, hP⟩ : ∃ P, parB l = P := ⟨_, rfl⟩
      have HP := Lib.hid hP
      have hPs : P.size ≤ 4000 := by rw [← hP]; exact par_small HO.out HS4.out
      rw [hP]
      have hx : i % (n + 1) < n + 1 := Nat.mod_lt _ (by omega)
      have hmod : ((i : Int) % ((n : Int) + 1)) = ((i % (n + 1) : Nat) : Int) := by rw [Int.natCast_emod]; rfl
      generalize i % (n + 1) = x at hx hmod
      clear b1 b2 hP HT1
      go_wp2_with (first
        | (at_builtin; refine wpList_append_txt _ rfl (.tmp 41) (.tmp 42) rfl w.heap.size _ _ [] l l n rfl rfl rfl HN.out hO0 hT3 (by simp; omega) (by omega) ?_; intro a4 c4 w4 hO4 b4 s4; have b04 := (b12.alloc hB2 _).trans b4)
        | (at_builtin; refine wpList_append_txt _ rfl (.tmp 43) (.tmp 45) rfl w.heap.size _ _ l [P] (l ++ [P]) (n + 1) rfl rfl rfl (by simp [HN.out]) (hO4.alloc _) (txt_one w4 P) (by have := b04.size; simp; omega) (by omega) ?_; intro a5 c5 w5 hO5 b5 s5; have b05 := (b04.alloc b04.size _).trans b5; obtain ⟨g5, rfl, hg5, hg5', hl5, hnc5, hf5, hc5⟩ := hO5.at_ (Nat.succ_pos n); have hcx := hc5 x (by rw [hl5]; exact hx); have hfx := hf5 x hx))
      have hxl : x < (l ++ [P]).length := by rw [hl5]; exact hx
      have hap := again_par HO.out x (by rw [HP.out]; exact hxl)
      simp only [HP.out] at hap
      obtain ⟨ha1, ha2⟩ := hap
      obtain ⟨hk1, hk2⟩ := mk_ok ha1
      rw [ha2] at hk1
      have hO6 := hO5.set x hx t
      have b06 : Below w.heap.size w (w5.setCell ⟨g5, x, none⟩ (.string t)) := below_store b05 hg5 _
      have hmz : ∀ s ∈ (l ++ [P]).set x t, s.size ≤ maxLen := fun s hs => by
        rcases List.mem_or_eq_of_mem_set hs with h1 | h1
        · rcases List.mem_append.1 h1 with h2 | h2
          · exact HZ.out s h2
          · rw [List.mem_singleton.1 h2]; unfold maxLen; omega
        · rw [h1]; exact HTS.out
      have hag := again_any ((l ++ [P]).set x t) _ (n + 1) c5 (x : Int) _ hO6.txt (by omega) hmz x rfl hx (by omega)
      rw [set_erase, hk1, hk2] at hag
      have HR : Hid ((okL l && decide (P = parB l)) = true) := Lib.hid (by rw [HO.out, HP.out]; simp)
      generalize (l ++ [P])[x] = S at hag
      refine hag.mono ?_
      clear hag hmz hO6 hk1 hk2 ha1 ha2 hxl hcx hfx hc5 hf5 hO5 hO4 hO0 hT3 b4 s4 b5 s5 b04 b05 b12 hB2
      rintro e w7 ⟨rfl, b7⟩
      have b07 := early2 b06 b7
      have HT7 := Lib.hid (HT.out.below b07)
      go_wp2_with fail
      refine (right_any P l _ _ HT7.out HM.out HZ.out true HR.out).mono ?_
      rintro e w8 ⟨rfl, b8⟩
      go_wp2
      go_ret
      exact ⟨by simp, early2 b07 b8⟩
end Go.Proofs.Ytckfhphobjjojaa
