/-
  A slice of texts that is one's own: one of its texts read, and laid anew.
-/
import Derived.Test.YtckfhphobjjojaaPs
import Derived.StillTailTactics
namespace Go.Proofs.Ytckfhphobjjojaa
open Go.RowKit M

/-- An own slice that is not empty: where it lies. -/
theorem Own.at_ {w : World} {B n c : Nat} {a : Option Addr} {l : List ByteArray} (h : Own w B (.slice a n c) l) (hn : 0 < n) :
    ∃ g, a = some ⟨g, 0, none⟩ ∧ B ≤ g ∧ g < w.heap.size ∧ l.length = n ∧ n ≤ c ∧ (∀ j, j < n → w.frozen? ⟨g, j, none⟩ = false) ∧ ∀ j (hj : j < l.length), w.cell? ⟨g, j, none⟩ = some (.string l[j]) := by
  have hl := h.txt.len
  rcases h.2 with ⟨e, h0⟩ | ⟨g, cap, cur, e, hB, hg, hnc, _, hcs, _⟩
  · simp only [Value.slice.injEq] at e
    omega
  · simp only [Value.slice.injEq] at e
    obtain ⟨rfl, _, rfl⟩ := e
    refine ⟨g, rfl, hB, (Array.getElem?_eq_some_iff.1 hg).1, hl, by omega, fun j hj => ?_, fun j hj => ?_⟩
    · simp [World.frozen?, hg]
    · obtain ⟨g', o, c', e, _, _, hcell⟩ := h.txt.isSome (by omega)
      simp only [Value.slice.injEq, Option.some.injEq, Addr.mk.injEq, and_true] at e
      obtain ⟨⟨rfl, rfl⟩, _⟩ := e
      have := hcell j hj
      rwa [Nat.zero_add] at this
theorem Own.set {w : World} {B n c g : Nat} {l : List ByteArray} (h : Own w B (.slice (some ⟨g, 0, none⟩) n c) l) (k : Nat) (hk : k < n) (s : ByteArray) :
    Own (w.setCell ⟨g, k, none⟩ (.string s)) B (.slice (some ⟨g, 0, none⟩) n c) (l.set k s) := by
  have hl := h.txt.len
  rcases h.2 with ⟨e, h0⟩ | ⟨g', cap, cur, e, hB, hg, hnc, hcm, hcs, ht⟩
  · simp only [Value.slice.injEq] at e
    omega
  · simp only [Value.slice.injEq, Option.some.injEq, Addr.mk.injEq, and_true] at e
    obtain ⟨rfl, _, rfl⟩ := e
    refine ⟨by simp, .inr ⟨g, c, cur.setIfInBounds k (.string s), by simp [hl], hB, ?_, by simpa using hnc, hcm, by simpa using hcs, ?_⟩⟩
    · simp [World.setCell, Array.getElem?_modify, hg]
    · rw [List.length_set, Nat.mul_one] at *
      rw [Array.toList_setIfInBounds, List.take_set, ht, List.map_set]
/-- Stored: what lay below is as it was. -/
theorem below_store {w w' : World} {B g k : Nat} (h : Below B w w') (hB : B ≤ g) (v : Value) : Below B w (w'.setCell ⟨g, k, none⟩ v) := h.setCell (p := ⟨g, k, none⟩) hB v
end Go.Proofs.Ytckfhphobjjojaa
