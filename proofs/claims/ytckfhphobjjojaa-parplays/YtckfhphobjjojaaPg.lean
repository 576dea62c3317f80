/-
  par.Again: what it answers.
-/
import Derived.Test.YtckfhphobjjojaaPc
namespace Go.Proofs.Ytckfhphobjjojaa
open Go.RowKit M

/-- The texts but one, put together: the one is the last, and no room lies behind it. -/
theorem cat_last (l : List ByteArray) (g o c n k : Nat) (w : World) (hl : l.length = n) (hcc : n ≤ c) (hg : g < w.heap.size) (hc : ∀ j (h : j < l.length), w.cell? ⟨g, o + j, none⟩ = some (.string l[j])) (hk : k + 1 = c) (hkn : k < n) (hn : 2 ≤ n) (hm : n ≤ 4294967295) :
    Calls Try.prog 22 #[.slice (some ⟨w.heap.size, 0, none⟩) 2 2] (w.alloc (.cells #[.slice (some ⟨g, o, none⟩) k c, .slice (some ⟨g, o, none⟩) 0 0] 22)).drew fun e w' =>
      ∃ a c', e = .returned (.slice a (k + 0) c') ∧ Txt w' (.slice a (k + 0) c') (l.eraseIdx k) ∧ Below w.heap.size w w' := by
  have HD : l.drop (k + 1) = [] := List.drop_eq_nil_of_le (by omega)
  have b1 : Below w.heap.size w (w.alloc (.cells #[.slice (some ⟨g, o, none⟩) k c, .slice (some ⟨g, o, none⟩) 0 0] 22)).drew := ((Below.refl _ w).alloc (Nat.le_refl _) _).drew
  have hT1 := txt_take (k := k) (c := c) (l := l) (by omega) (by omega) (Nat.lt_of_lt_of_le hg b1.size) fun j hj => by rw [b1.cell (p := ⟨g, o + j, none⟩) hg]; exact hc j hj
  have hcon := concat_any (l.take k) [] (some ⟨g, o, none⟩) (some ⟨g, o, none⟩) k c 0 0 w.heap.size _ hT1 (txt_empty _ _ _) (by simp) (by simp) (by simp) (by omega) (by omega)
  rw [← HD, ← List.eraseIdx_eq_take_drop_succ] at hcon
  exact hcon.mono fun e w' ⟨a, c', h1, h2, h3⟩ => ⟨a, c', h1, h2, early2 b1 h3⟩
/-- The same, the one being any other. -/
theorem cat_mid (l : List ByteArray) (g o c n k : Nat) (w : World) (hl : l.length = n) (hcc : n ≤ c) (hg : g < w.heap.size) (hc : ∀ j (h : j < l.length), w.cell? ⟨g, o + j, none⟩ = some (.string l[j])) (hkn : k < n) (hn : 2 ≤ n) (hm : n ≤ 4294967295) :
    Calls Try.prog 22 #[.slice (some ⟨w.heap.size, 0, none⟩) 2 2] (w.alloc (.cells #[.slice (some ⟨g, o, none⟩) k c, .slice (some ⟨g, o + (k + 1), none⟩) (n - (k + 1)) (c - (k + 1))] 22)).drew fun e w' =>
      ∃ a c', e = .returned (.slice a (k + (n - (k + 1))) c') ∧ Txt w' (.slice a (k + (n - (k + 1))) c') (l.eraseIdx k) ∧ Below w.heap.size w w' := by
  have b1 : Below w.heap.size w (w.alloc (.cells #[.slice (some ⟨g, o, none⟩) k c, .slice (some ⟨g, o + (k + 1), none⟩) (n - (k + 1)) (c - (k + 1))] 22)).drew := ((Below.refl _ w).alloc (Nat.le_refl _) _).drew
  have hgW := Nat.lt_of_lt_of_le hg b1.size
  have hcW : ∀ j (h : j < l.length), (w.alloc (.cells #[.slice (some ⟨g, o, none⟩) k c, .slice (some ⟨g, o + (k + 1), none⟩) (n - (k + 1)) (c - (k + 1))] 22)).drew.cell? ⟨g, o + j, none⟩ = some (.string l[j]) :=
    fun j hj => by rw [b1.cell (p := ⟨g, o + j, none⟩) hg]; exact hc j hj
  have hcon := concat_any (l.take k) (l.drop (k + 1)) (some ⟨g, o, none⟩) (some ⟨g, o + (k + 1), none⟩) k c (n - (k + 1)) (c - (k + 1)) w.heap.size _ (txt_take (by omega) (by omega) hgW hcW) (txt_drop hl hcc hgW hcW)
    (by simp) (by simp) (by simp) (by omega) (by omega)
  rw [← List.eraseIdx_eq_take_drop_succ] at hcon
  exact hcon.mono fun e w' ⟨a, c', h1, h2, h3⟩ => ⟨a, c', h1, h2, early2 b1 h3⟩

set_option maxHeartbeats 4000000 in
theorem again_any (l : List ByteArray) (a : Option Addr) (n c : Nat) (at_ : Int) (w : World) (h : Txt w (.slice a n c) l) (hm : n ≤ 4294967295) (hz : ∀ s ∈ l, s.size ≤ maxLen) (k : Nat) (hk : at_ = k) (hkn : k < n) (hn : 2 ≤ n) :
    Calls Try.prog 12 #[.slice a n c, .int .i64 at_] w fun e w' => e = .returned (.tuple #[.string (mkB (l.eraseIdx k)), .int .i64 (mkE (l.eraseIdx k))]) ∧ Below w.heap.size w w' := by
  subst hk
  have HL := Lib.hid h.len
  obtain ⟨g, o, c', e, hcc, hg, hcell⟩ := h.isSome (by rw [HL.out]; omega)
  simp only [Value.slice.injEq] at e
  obtain ⟨rfl, -, rfl⟩ := e
  rw [HL.out] at hcc
  have HZ := Lib.hid hz
  have HC := Lib.hid hcell
  clear hcell hz h
  have hd1 : decide ((n : Int) < 2) = false := by rw [decide_eq_false_iff_not]; omega
  have hd2 : decide ((k : Int) < 0) = false := by rw [decide_eq_false_iff_not]; omega
  have hd3 : decide ((n : Int) ≤ (k : Int)) = false := by rw [decide_eq_false_iff_not]; omega
  go_enter Try.func12, Try.ntmps12
  go_wp2_with fail
  by_cases hc1 : k + 1 = c
  · subst hc1
    obtain rfl : n = k + 1 := by omega
    have q0 : IntKind.i64.wrap ((k : Int) + 1) = (k : Int) + 1 := by rw [IntKind.wrap_i64]; omega
    have q3 : ((k : Int) + 1).toNat = k + 1 := by omega
    have q7 : 0 ≤ (k : Int) + 1 := by omega
    have q6 : (k : Int) + 1 ≤ ((k + 1 : Nat) : Int) := by omega
    go_region_with (first
      | (go_at_call 22; refine (cat_last l g o (k + 1) (k + 1) k w HL.out hcc hg HC.out rfl hkn hn hm).mono ?_; rintro e w2 ⟨a2, c2, rfl, hT2, b2⟩)
      | (go_at_call 10; refine (make_any (l.eraseIdx k) _ _ hT2 (by rw [List.length_eraseIdx_of_lt (by rw [HL.out]; exact hkn), HL.out]; unfold maxLen; omega) (fun s hs => HZ.out s (mem_erase hs))).mono ?_; rintro e w3 ⟨rfl, b3⟩))
    go_wp2
    go_ret2
    exact ⟨rfl, early2 b2 b3⟩
  · have q0 : IntKind.i64.wrap ((k : Int) + 1) = (k : Int) + 1 := by rw [IntKind.wrap_i64]; omega
    have q3 : ((k : Int) + 1).toNat = k + 1 := by omega
    have q4 : ¬ c = k + 1 := fun e => hc1 e.symm
    have q5 : k ≤ c := by omega
    have q6 : (k : Int) + 1 ≤ (n : Int) := by omega
    have q7 : 0 ≤ (k : Int) + 1 := by omega
    go_region_with (first
      | (go_at_call 22; refine (cat_mid l g o c n k w HL.out hcc hg HC.out hkn hn hm).mono ?_; rintro e w2 ⟨a2, c2, rfl, hT2, b2⟩)
      | (go_at_call 10; refine (make_any (l.eraseIdx k) _ _ hT2 (by rw [List.length_eraseIdx_of_lt (by rw [HL.out]; exact hkn), HL.out]; unfold maxLen; omega) (fun s hs => HZ.out s (mem_erase hs))).mono ?_; rintro e w3 ⟨rfl, b3⟩))
    go_wp2
    go_ret2
    exact ⟨rfl, early2 b2 b3⟩
end Go.Proofs.Ytckfhphobjjojaa
