/-
  For laws: runs that are kept beside a map; where the calls have come to; the runs compared.
-/
import Derived.Test.YtoiiaacjpobaeaaSj
namespace Go.Proofs.Ytoiiaacjpobaeaa
set_option maxRecDepth 100000
open Go.RowKit

/-- A slice's own block. -/
def ownX (v : Value) : Nat → Prop := fun j => v.ownBlock = some j
theorem MapIn.beside {B C : Nat} {x : Nat → Prop} {w w' : World} {b : Nat} {z : Int} {l l' : List (Int × Int)} {v : Value} (h : MapIn B x w b z l) (hb : Below w.heap.size w w') (hO : RunsO C w' v l') (hC : w.heap.size ≤ C) : MapIn B (ownX v) w' b z l := by
  obtain ⟨u, h⟩ := h
  have hl := h.mv.lt
  refine ⟨u, h.mv.below hb, h.hB, (fun e => by have := hO.own _ e; omega), fun j hj => ⟨(h.hv j hj).1, fun e => ?_⟩, fun j e => hO.r.lt e⟩
  have := h.mv.r.lt hj
  have := hO.own _ e
  omega
theorem RunsV.keep {B : Nat} {w w' : World} {v : Value} {l : List (Int × Int)} (h : RunsV w v l) (hk : KeptX B (ownX v) w w') : RunsV w' v l := h.of fun k hk' => hk.kept k hk'
/-- Where the calls have come to. -/
def AtCall (B : Nat) (x : Nat → Prop) (b : Nat) (z : Int) (n : Nat) (W : World) (u : Value) (wr : World) : Prop :=
  ∃ (t : Nat) (l : List (Int × Int)), t ≤ n ∧ u = .int .i64 (t : Int) ∧ Hid (WF z l) ∧ Hid (MapIn B x wr b z l) ∧ Hid (Below B W wr)
/-- Where the comparing of two slices of the same runs has come to. -/
def SameRel (B : Nat) (l : List (Int × Int)) (a a2 : Option Addr) (n c c2 : Nat) (W : World) (u : Value) (wr : World) : Prop :=
  ∃ k : Nat, k ≤ n ∧ u = .int .i64 (k : Int) ∧ Hid (RunsV wr (.slice a n c) l) ∧ Hid (RunsV wr (.slice a2 n c2) l) ∧ Hid (Below B W wr)
end Go.Proofs.Ytoiiaacjpobaeaa
