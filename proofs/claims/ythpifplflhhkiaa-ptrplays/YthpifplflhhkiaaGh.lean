/-
  A measure in a box: what stays while worlds grow.
-/
import Derived.Test.YthpifplflhhkiaaGe
namespace Go.Proofs.Ythpifplflhhkiaa
set_option maxRecDepth 100000
open Go.RowKit

/-- A measure boxed in block b, in a world that grew from w0. -/
structure Held (w0 w : World) (b : Nat) (a : Option Addr) (n c : Nat) (s : Int) (l : List (Int × Int)) : Prop where
  c0 : w.cell? ⟨b, 0, none⟩ = some (.slice a n c)
  c1 : w.cell? ⟨b, 1, none⟩ = some (.int .i64 s)
  lt : b < w.heap.size
  m : Meas w (.agg #[.slice a n c, .int .i64 s]) l s
  below : Below w0.heap.size w0 w
theorem Held.next {w0 w w' : World} {b : Nat} {a : Option Addr} {n c : Nat} {s : Int} {l : List (Int × Int)} (h : Held w0 w b a n c s l) (k : Below w.heap.size w w') : Held w0 w' b a n c s l :=
  ⟨by rw [k.cell (p := ⟨b, 0, none⟩) h.lt]; exact h.c0, by rw [k.cell (p := ⟨b, 1, none⟩) h.lt]; exact h.c1, Nat.lt_of_lt_of_le h.lt k.size, h.m.below k, Proofs.Ythpifplflhhkiaa.next h.below k⟩
theorem Held.start {w : World} {a : Option Addr} {n c : Nat} {s : Int} {l : List (Int × Int)} (h : Meas w (.agg #[.slice a n c, .int .i64 s]) l s) :
    Held w (w.alloc (.cells #[.slice a n c, .int .i64 s] 41)) w.heap.size a n c s l :=
  ⟨by simp, by simp, by simp, h.below (boxed _ _), boxed _ _⟩
theorem Held.len {w0 w : World} {b : Nat} {a : Option Addr} {n c : Nat} {s : Int} {l : List (Int × Int)} (h : Held w0 w b a n c s l) : l.length = n ∧ n ≤ 9223372036854775807 := by
  obtain ⟨a', n', c', hv, hg, _⟩ := h.m
  cases hv
  exact ⟨hg.2.1, by have := hg.1; unfold maxLen at this; omega⟩
/-- One of its groups. -/
theorem Held.at_ {w0 w : World} {b : Nat} {a : Option Addr} {n c : Nat} {s : Int} {l : List (Int × Int)} (h : Held w0 w b a n c s l) {k : Nat} (hk : k < l.length) {x : Int × Int} (hx : l[k] = x) :
    ∃ g o, a = some ⟨g, o, none⟩ ∧ g < w.heap.size ∧ w.cell? ⟨g, o + k * 2, none⟩ = some (.int .i64 x.1) ∧ w.cell? ⟨g, o + k * 2 + 1, none⟩ = some (.int .i64 x.2) := by
  obtain ⟨a', n', c', hv, hg, _⟩ := h.m
  cases hv
  obtain ⟨g, o, ha, hG⟩ := hg.2.2 k hk
  subst hx
  exact ⟨g, o, ha, hG.lt, hG.c0, hG.c1⟩
end Go.Proofs.Ythpifplflhhkiaa
