/-
  The walk of polderlaw03.ParBlank: it returns true, and writes nothing that was there.
-/
import Derived.Test.YtckfhphobjjojaaPa
namespace Go.Proofs.Ytckfhphobjjojaa
open Go.RowKit M

set_option maxHeartbeats 4000000 in
theorem walk_ParBlank (a : Option Addr) (n c : Nat) (w : World) (h : ∃ l : List ByteArray, Txt w (.slice a n c) l ∧ n ≤ maxLen ∧ ∀ s ∈ l, s.size ≤ maxLen) :
    Calls Try.prog 7 #[.slice a n c] w fun e w' => e = .returned (.bool true) ∧ Below w.heap.size w w' := by
  obtain ⟨l, hT, hm, hz⟩ := h
  have HN := Lib.hid hT.len
  have HM : Hid (l.length ≤ maxLen) := Lib.hid (by rw [HN.out]; exact hm)
  have HT := Lib.hid hT
  have HZ := Lib.hid hz
  unfold maxLen at hm
  clear hT hz
  go_enter Try.func7, Try.ntmps7
  go_wp2_with fail
  refine (awake_any _).mono ?_
  rintro e w1 ⟨rfl, b1⟩
  have HT1 := Lib.hid (HT.out.below b1)
  cases hf : fewL l with
  | false =>
    go_wp2_with fail
    refine (few_any l _ _ HT1.out HM.out HZ.out false hf).mono ?_
    rintro e w2 ⟨rfl, rfl⟩
    clear hf
    go_wp2_with fail
    refine (awake_any _).mono ?_
    rintro e w3 ⟨rfl, b3⟩
    go_wp2
    go_ret
    exact ⟨rfl, early2 b1 b3⟩
  | true =>
    go_wp2_with fail
    refine (few_any l _ _ HT1.out HM.out HZ.out true hf).mono ?_
    rintro e w2 ⟨rfl, rfl⟩
    obtain ⟨hl30, hs4⟩ := few_short hf
    have HS4 := Lib.hid hs4
    have hn30 : n < 30 := by rw [← HN.out]; exact hl30
    clear hf hl30 hs4
    cases ho : okL l with
    | false =>
      obtain ⟨h1, h2⟩ := mk_no ho
      go_wp2_with fail
      refine (make_any l _ _ HT1.out HM.out HZ.out).mono ?_
      rw [h1, h2]
      clear h1 h2 ho
      rintro e w2 ⟨rfl, b2⟩
      go_wp2
      go_ret
      exact ⟨rfl, early2 b1 b2⟩
    | true =>
      obtain ⟨h1, h2⟩ := mk_ok ho
      have HO := Lib.hid ho
      go_wp2_with fail
      refine (make_any l _ _ HT1.out HM.out HZ.out).mono ?_
      rw [h1, h2]
      clear h1 h2 ho
      rintro e w2 ⟨rfl, b2⟩
      have b12 := early2 b1 b2
      have HT2 := Lib.hid (HT1.out.below b2)
      have hB2 : w.heap.size ≤ w2.heap.size := b12.size
      have hO0 : Own (w2.alloc (.cells #[] 9)) w.heap.size (.slice (some ⟨w2.heap.size, 0, none⟩) 0 0) [] := own_none w2 _ hB2
      have hT3 := HT2.out.below ((Below.refl _ w2).alloc (Nat.le_refl _) (.cells #[] 9))
      obtain ⟨P, hP⟩ : ∃ P, parB l = P := ⟨_, rfl⟩
      have HP := Lib.hid hP
      rw [hP]
      clear b1 b2 hP HT1
      go_wp2_with (first
        | (at_builtin; refine wpList_append_txt _ rfl (.tmp 25) (.tmp 26) rfl w.heap.size _ _ [] l l n rfl rfl rfl HN.out hO0 hT3 (by simp; omega) (by omega) ?_; intro a4 c4 w4 hO4 b4 s4)
        | (at_builtin; refine wpList_append_txt _ rfl (.tmp 27) (.tmp 29) rfl w.heap.size _ _ l [P] (l ++ [P]) (n + 1) rfl rfl rfl (by simp [HN.out]) (hO4.below ((Below.refl _ w4).alloc (Nat.le_refl _) _)) (txt_one w4 P) (by simp at s4 ⊢; omega) (by omega) ?_; intro a5 c5 w5 hO5 b5 s5))
      have hB4 : w.heap.size ≤ w4.heap.size := by simp at s4; omega
      have b05 : Below w.heap.size w w5 := ((b12.alloc hB2 _).trans b4).trans (((Below.refl _ w4).alloc hB4 _).trans b5)
      have hB5 : w.heap.size ≤ w5.heap.size := b05.size
      obtain ⟨hp1, hp2, hp3⟩ := with_par HO.out
      rw [HP.out] at hp1 hp2 hp3
      have hbl : blankB (parB (l ++ [P])) = true := blank_of (by rw [hp2]; exact hp3)
      obtain ⟨hk1, hk2⟩ := mk_ok hp1
      have hPs : P.size ≤ 4000 := by rw [← HP.out]; exact par_small HO.out HS4.out
      have hzl : ∀ s ∈ l ++ [P], s.size ≤ 4000 := fun s hs => by
        rcases List.mem_append.1 hs with h1 | h1
        · exact HS4.out s h1
        · rw [List.mem_singleton.1 h1]; exact hPs
      have hQs := par_small hp1 hzl
      have hPl : Hid (n = 1 → l = [P]) := Lib.hid fun h1 => by
        have := HN.out
        rw [h1] at this
        obtain ⟨s, rfl⟩ := List.length_eq_one_iff.1 this
        rw [← HP.out, par_single]
      have HZL : Hid (∀ s ∈ l ++ [P], s.size ≤ maxLen) := Lib.hid fun s hs => Nat.le_trans (hzl s hs) (by decide)
      have HLL : Hid ((l ++ [P]).length ≤ maxLen) := Lib.hid (by simp [HN.out]; unfold maxLen; omega)
      have HEV := Lib.hid (ok_iff.1 hp1).2
      have HO5 := Lib.hid hO5
      refine (make_any (l ++ [P]) _ _ hO5.txt HLL.out HZL.out).mono ?_
      rw [hk1, hk2]
      clear hp1 hp2 hp3 hk1 hk2 hPs hzl hO5 hO4 hO0 hT3 HT2 b4 s4 b5 s5 b12 hB2 hB4 HP HS4
      generalize parB (l ++ [P]) = Q at hbl hQs ⊢
      have HBL := Lib.hid hbl
      clear hbl
      rintro e w6 ⟨rfl, b6⟩
      have b06 := early2 b05 b6
      have HO6 := Lib.hid (HO5.out.below b6)
      have HT6 := Lib.hid (HT.out.below b06)
      by_cases h1 : n = 1
      · obtain rfl := hPl.out h1
        subst h1
        obtain ⟨g, o, c', e, hcc, hg, hcell⟩ := HT6.out.isSome (by simp)
        simp only [Value.slice.injEq] at e
        obtain ⟨rfl, -, rfl⟩ := e
        have hc0 : w6.cell? ⟨g, o, none⟩ = some (.string P) := hcell 0 (by simp)
        have hg' : g < w.heap.size := by
          obtain ⟨g2, o2, c2, e2, _, hg2, _⟩ := HT.out.isSome (by simp)
          simp only [Value.slice.injEq, Option.some.injEq, Addr.mk.injEq, and_true] at e2
          rw [e2.1.1]; exact hg2
        clear hcell
        go_wp2_with fail
        refine (blank_any Q _ (Nat.le_trans hQs (by decide)) true HBL.out).mono ?_
        rintro e w7 ⟨rfl, rfl⟩
        go_wp2_with fail
        refine (even_any _ _ _ HO6.out.txt HLL.out true HEV.out).mono ?_
        rintro e w8 ⟨rfl, b8⟩
        have hc8 : w8.cell? ⟨g, o, none⟩ = some (.string P) := by rw [b8.cell (p := ⟨g, o, none⟩) (Nat.lt_of_lt_of_le hg' b06.size)]; exact hc0
        go_wp2
        go_ret
        exact ⟨by simp, early2 b06 b8⟩
      · have h1' : ((n : Int) != 1) = true := by rw [bne_iff_ne]; omega
        go_wp2_with fail
        refine (blank_any Q _ (Nat.le_trans hQs (by decide)) true HBL.out).mono ?_
        rintro e w7 ⟨rfl, rfl⟩
        go_wp2_with fail
        refine (even_any _ _ _ HO6.out.txt HLL.out true HEV.out).mono ?_
        rintro e w8 ⟨rfl, b8⟩
        go_wp2
        go_ret
        exact ⟨rfl, early2 b06 b8⟩
end Go.Proofs.Ytckfhphobjjojaa
