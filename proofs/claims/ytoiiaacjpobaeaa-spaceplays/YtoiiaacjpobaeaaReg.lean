/-
  A region that draws its order, whose operations read and whose callees may make memory: one walk in the text's order serves, where all worlds that come up are of one family.
-/
import Derived.Test.YtoiiaacjpobaeaaChecked
import Derived.WalkKit
import Derived.Deep.QuietTactic
import Derived.BigQuiet
namespace Go.Proofs.Ytoiiaacjpobaeaa
set_option maxRecDepth 100000
open Go.RowKit

theorem wp_region_family {P : Program} {X : Type} (f : X → World) {id : Nat} {Q : Exit → Act → World → Prop} {a : Act} {w : World} {l : List Oper} (hm : P.follows .mixedOrders = true) (hB : Region.lexB .any l.toArray = true)
    (h0 : ∃ x, { w with drawn := w.drawn + 1 } = f x)
    (h : wpQuiet P l.toArray (fun w' => ∃ x, w' = f x) (fun a' => ∀ w', (∃ x, w' = f x) → Q .normal a' w') l a) : (Code.region id l.toArray true).wp P Q a w :=
  wp_region_quiet (C := fun w' => ∃ x, w' = f x) hm hB h0 (by simpa using h)
end Go.Proofs.Ytoiiaacjpobaeaa
