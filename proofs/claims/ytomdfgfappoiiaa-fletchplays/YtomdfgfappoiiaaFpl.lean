/-
  What the loop of FletchPlays stands on.
-/
import Derived.Test.YtomdfgfappoiiaaFpk
import Derived.Test.YtomdfgfappoiiaaFrm
import Derived.Deep.RegionHeld
namespace Go.Proofs.Ytomdfgfappoiiaa
open Go.RowKit M

theorem PK.setFar {w0 w : World} {b : Nat} {q : Q} {st : Int} (h : PK w0 b q st w) {c i : Nat} (hc : b + 2 < c) (h0 : w0.heap.size ≤ c) (v : Value) : PK w0 b q st (w.setCell ⟨c, i, none⟩ v) :=
  h.within (B := c) ((Below.refl _ _).setCell (p := ⟨c, i, none⟩) (Nat.le_refl _) v) hc h0
/-- The blocks of p, at and n beside the others. -/
structure PL (w0 : World) (b : Nat) (q : Q) (st : Int) (c : Nat) (p : ByteArray) (j k : Nat) (w : World) : Prop where
  base : PK w0 b q st w
  p : w.cell? ⟨c, 0, none⟩ = some (.string p)
  at_ : w.cell? ⟨c + 1, 0, none⟩ = some (.int .i64 j)
  n : w.cell? ⟨c + 2, 0, none⟩ = some (.int .i64 k)
  fa : w.frozen? ⟨c + 1, 0, none⟩ = false
  fn : w.frozen? ⟨c + 2, 0, none⟩ = false
  lt : c + 2 < w.heap.size
theorem PL.within {w0 w w' : World} {b c B : Nat} {q : Q} {st : Int} {p : ByteArray} {j k : Nat} (h : PL w0 b q st c p j k w) (hb : Below B w w') (hc : c + 2 < B) (hbc : b + 2 < c) (h0 : w0.heap.size ≤ c) : PL w0 b q st c p j k w' :=
  ⟨h.base.within hb (by omega) (by omega), by rw [hb.cell (p := ⟨c, 0, none⟩) (by show c < B; omega)]; exact h.p, by rw [hb.cell (p := ⟨c + 1, 0, none⟩) (by show c + 1 < B; omega)]; exact h.at_, by rw [hb.cell (p := ⟨c + 2, 0, none⟩) hc]; exact h.n,
    by rw [hb.frozen (p := ⟨c + 1, 0, none⟩) (by show c + 1 < B; omega)]; exact h.fa, by rw [hb.frozen (p := ⟨c + 2, 0, none⟩) hc]; exact h.fn, Nat.lt_of_lt_of_le h.lt hb.size⟩
theorem PL.step {w0 w : World} {b c : Nat} {q : Q} {st : Int} {p : ByteArray} {j k : Nat} (h : PL w0 b q st c p j k w) (hbc : b + 2 < c) (h0 : w0.heap.size ≤ c) (j' k' : Nat) :
    PL w0 b q st c p j' k' ((w.setCell ⟨c + 1, 0, none⟩ (.int .i64 j')).setCell ⟨c + 2, 0, none⟩ (.int .i64 k')) := by
  obtain ⟨h1, h2, h3, h4, h5, h6, h7⟩ := h
  refine ⟨(h1.setFar (by omega) (by omega) _).setFar (by omega) (by omega) _, ?_, ?_, ?_, ?_, ?_, ?_⟩
  · rw [World.cell?_setCell_far _ _ _ _ (by show c + 2 ≠ c; omega), World.cell?_setCell_far _ _ _ _ (by show c + 1 ≠ c; omega)]; exact h2
  · rw [World.cell?_setCell_far _ _ _ _ (by show c + 2 ≠ c + 1; omega)]; exact World.cell?_setCell_same _ _ _ h3
  · exact World.cell?_setCell_same _ _ _ (u := .int .i64 k) (by rw [World.cell?_setCell_far _ _ _ _ (by show c + 1 ≠ c + 2; omega)]; exact h4)
  · simp [h5]
  · simp [h6]
  · simp [World.setCell]; exact h7
theorem PL.start {w0 w : World} {b : Nat} {q : Q} {st : Int} (h : PK w0 b q st w) (p s : ByteArray) (t t' : TypeId) :
    PL w0 b q st w.heap.size p 0 0 ((((w.alloc (.cells #[.string p] t)).alloc (.cells #[.int .i64 0] t')).alloc (.cells #[.int .i64 0] t')).alloc (.cells #[.string s] t)) ∧
    ((((w.alloc (.cells #[.string p] t)).alloc (.cells #[.int .i64 0] t')).alloc (.cells #[.int .i64 0] t')).alloc (.cells #[.string s] t)).cell? ⟨w.heap.size + 1 + 1 + 1, 0, none⟩ = some (.string s) := by
  have e1 : w.heap.size + 1 = (w.alloc (.cells #[.string p] t)).heap.size := by simp
  have e2 : w.heap.size + 2 = ((w.alloc (.cells #[.string p] t)).alloc (.cells #[.int .i64 0] t')).heap.size := by simp
  have e3 : w.heap.size + 1 + 1 + 1 = (((w.alloc (.cells #[.string p] t)).alloc (.cells #[.int .i64 0] t')).alloc (.cells #[.int .i64 0] t')).heap.size := by simp
  have c0 : (w.alloc (.cells #[.string p] t)).cell? ⟨w.heap.size, 0, none⟩ = some (.string p) := by rw [World.cell?_alloc_new]; rfl
  have c1 : ((w.alloc (.cells #[.string p] t)).alloc (.cells #[.int .i64 0] t')).cell? ⟨w.heap.size + 1, 0, none⟩ = some (.int .i64 0) := by rw [e1, World.cell?_alloc_new]; rfl
  have f1 : ((w.alloc (.cells #[.string p] t)).alloc (.cells #[.int .i64 0] t')).frozen? ⟨w.heap.size + 1, 0, none⟩ = false := by rw [e1]; exact World.frozen?_alloc_at _ _ _ _ rfl
  have c2 : (((w.alloc (.cells #[.string p] t)).alloc (.cells #[.int .i64 0] t')).alloc (.cells #[.int .i64 0] t')).cell? ⟨w.heap.size + 2, 0, none⟩ = some (.int .i64 0) := by rw [e2, World.cell?_alloc_new]; rfl
  have f2 : (((w.alloc (.cells #[.string p] t)).alloc (.cells #[.int .i64 0] t')).alloc (.cells #[.int .i64 0] t')).frozen? ⟨w.heap.size + 2, 0, none⟩ = false := by rw [e2]; exact World.frozen?_alloc_at _ _ _ _ rfl
  have b1 := (Below.refl (w.heap.size + 1) (w.alloc (.cells #[.string p] t))).alloc (by simp) (.cells #[.int .i64 0] t')
  have b2 := (Below.refl (w.heap.size + 2) ((w.alloc (.cells #[.string p] t)).alloc (.cells #[.int .i64 0] t'))).alloc (by simp) (.cells #[.int .i64 0] t')
  have b3 := (Below.refl (w.heap.size + 3) (((w.alloc (.cells #[.string p] t)).alloc (.cells #[.int .i64 0] t')).alloc (.cells #[.int .i64 0] t'))).alloc (by simp) (.cells #[.string s] t)
  have bb : Below w.heap.size w ((((w.alloc (.cells #[.string p] t)).alloc (.cells #[.int .i64 0] t')).alloc (.cells #[.int .i64 0] t')).alloc (.cells #[.string s] t)) :=
    ((((Below.refl _ w).alloc (Nat.le_refl _) _).alloc (by simp) _).alloc (by simp; omega) _).alloc (by simp; omega) _
  refine ⟨⟨h.next bb, ?_, ?_, ?_, ?_, ?_, ?_⟩, ?_⟩
  · rw [b3.cell (p := ⟨w.heap.size, 0, none⟩) (by show w.heap.size < _; omega), b2.cell (p := ⟨w.heap.size, 0, none⟩) (by show w.heap.size < _; omega), b1.cell (p := ⟨w.heap.size, 0, none⟩) (by show w.heap.size < _; omega)]; exact c0
  · rw [b3.cell (p := ⟨w.heap.size + 1, 0, none⟩) (by show w.heap.size + 1 < _; omega), b2.cell (p := ⟨w.heap.size + 1, 0, none⟩) (by show w.heap.size + 1 < _; omega)]; exact c1
  · rw [b3.cell (p := ⟨w.heap.size + 2, 0, none⟩) (by show w.heap.size + 2 < _; omega)]; exact c2
  · rw [b3.frozen (p := ⟨w.heap.size + 1, 0, none⟩) (by show w.heap.size + 1 < _; omega), b2.frozen (p := ⟨w.heap.size + 1, 0, none⟩) (by show w.heap.size + 1 < _; omega)]; exact f1
  · rw [b3.frozen (p := ⟨w.heap.size + 2, 0, none⟩) (by show w.heap.size + 2 < _; omega)]; exact f2
  · simp
  · rw [e3, World.cell?_alloc_new]; rfl
/-- The answer stands: true. -/
structure PT (w0 : World) (b : Nat) (w : World) : Prop where
  r : w.cell? ⟨b + 2, 0, none⟩ = some (.bool true)
  below : Below w0.heap.size w0 w
theorem PT.within {w0 w w' : World} {b B : Nat} (h : PT w0 b w) (hb : Below B w w') (hB : b + 2 < B) (h0 : w0.heap.size ≤ B) : PT w0 b w' :=
  ⟨by rw [hb.cell (p := ⟨b + 2, 0, none⟩) hB]; exact h.r, h.below.trans (hb.mono h0)⟩
theorem PK.told {w0 w : World} {b : Nat} {q : Q} {st : Int} (h : PK w0 b q st w) (h0 : w0.heap.size ≤ b + 2) : PT w0 b (w.setCell ⟨b + 2, 0, none⟩ (.bool true)) :=
  ⟨World.cell?_setCell_same _ _ _ h.r, h.below.setCell (p := ⟨b + 2, 0, none⟩) h0 _⟩
end Go.Proofs.Ytomdfgfappoiiaa
