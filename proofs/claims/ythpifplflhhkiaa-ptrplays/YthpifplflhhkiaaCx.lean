/-
  Worlds that grew from a given one: a family for regions that draw their order.
-/
import Derived.Test.YthpifplflhhkiaaGa
import Derived.Test.YthpifplflhhkiaaReg
namespace Go.Proofs.Ythpifplflhhkiaa
set_option maxRecDepth 100000
open Go.RowKit

structure Ext (W : World) where
  v : World
  h : Below W.heap.size W v
theorem Ext.cell {W : World} (q : Ext W) {b i : Nat} {x : Value} (h : W.cell? ⟨b, i, none⟩ = some x) (hb : b < W.heap.size) : q.v.cell? ⟨b, i, none⟩ = some x := by
  rw [q.h.cell (p := ⟨b, i, none⟩) hb]; exact h
theorem Ext.some (W : World) : Nonempty (Ext W) := ⟨⟨W, Below.refl _ _⟩⟩
theorem Ext.calls {W : World} {f : FuncId} {args : Array Value} {x : Value} (h : ∀ w, Below W.heap.size W w → Calls Try.prog f args w fun e w' => e = .returned x ∧ Below w.heap.size w w') (q : Ext W) :
    Calls Try.prog f args q.v fun e w' => e = .returned x ∧ ∃ q' : Ext W, w' = q'.v :=
  (h q.v q.h).mono fun _ w' ⟨h1, h2⟩ => ⟨h1, ⟨w', next q.h h2⟩, rfl⟩
end Go.Proofs.Ythpifplflhhkiaa
