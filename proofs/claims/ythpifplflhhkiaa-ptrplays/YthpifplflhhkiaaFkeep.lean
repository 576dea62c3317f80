/-
  What a region holds fast: blocks that hold sums, and what was there at first.
-/
import Derived.Test.YthpifplflhhkiaaFgr
import Derived.Test.YthpifplflhhkiaaFw
import Derived.Test.YthpifplflhhkiaaReg
namespace Go.Proofs.Ythpifplflhhkiaa
set_option maxRecDepth 100000
open Go.RowKit M

/-- Block b holds the sum r, and is there; what was there at first is as it was. -/
structure Kept (w0 : World) (b : Nat) (r : Q) (w : World) : Prop where
  holds : HoldsQ w b r
  lt : b < w.heap.size
  below : Below w0.heap.size w0 w
theorem Kept.next {w0 w w' : World} {b : Nat} {r : Q} (h : Kept w0 b r w) (hb : Below w.heap.size w w') : Kept w0 b r w' :=
  ⟨h.holds.below hb h.lt, Nat.lt_of_lt_of_le h.lt hb.size, early2 h.below hb⟩
theorem Kept.drew {w0 w : World} {b : Nat} {r : Q} (h : Kept w0 b r w) : Kept w0 b r w.drew := h.next (Below.refl _ _).drew
/-- Two blocks hold the sums r and q, and are there; what was there at first is as it was. -/
structure Kept2 (w0 : World) (b : Nat) (r : Q) (d : Nat) (q : Q) (w : World) : Prop where
  one : Kept w0 b r w
  two : Kept w0 d q w
theorem Kept2.next {w0 w w' : World} {b d : Nat} {r q : Q} (h : Kept2 w0 b r d q w) (hb : Below w.heap.size w w') : Kept2 w0 b r d q w' := ⟨h.one.next hb, h.two.next hb⟩
theorem Kept2.drew {w0 w : World} {b d : Nat} {r q : Q} (h : Kept2 w0 b r d q w) : Kept2 w0 b r d q w.drew := ⟨h.one.drew, h.two.drew⟩
/-- Three blocks hold sums, and are there; what was there at first is as it was. -/
structure Kept3 (w0 : World) (b : Nat) (r : Q) (d : Nat) (q : Q) (f : Nat) (p : Q) (w : World) : Prop where
  one : Kept w0 b r w
  two : Kept w0 d q w
  three : Kept w0 f p w
theorem Kept3.next {w0 w w' : World} {b d f : Nat} {r q p : Q} (h : Kept3 w0 b r d q f p w) (hb : Below w.heap.size w w') : Kept3 w0 b r d q f p w' := ⟨h.one.next hb, h.two.next hb, h.three.next hb⟩
theorem Kept3.drew {w0 w : World} {b d f : Nat} {r q p : Q} (h : Kept3 w0 b r d q f p w) : Kept3 w0 b r d q f p w.drew := ⟨h.one.drew, h.two.drew, h.three.drew⟩
/-- The worlds that keep three blocks. -/
structure KW3 (w0 : World) (b : Nat) (r : Q) (d : Nat) (q : Q) (f : Nat) (p : Q) where
  v : World
  h : Kept3 w0 b r d q f p v
/-- The worlds that keep one block. -/
structure KW (w0 : World) (b : Nat) (r : Q) where
  v : World
  h : Kept w0 b r v
/-- The worlds that keep two blocks. -/
structure KW2 (w0 : World) (b : Nat) (r : Q) (d : Nat) (q : Q) where
  v : World
  h : Kept2 w0 b r d q v
end Go.Proofs.Ythpifplflhhkiaa
