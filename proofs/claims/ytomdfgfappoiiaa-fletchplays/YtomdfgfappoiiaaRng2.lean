/-
  The law for a range over a function once more: the assignment to the loop's variable moves slot t to slot d.
-/
import Derived.Test.YtomdfgfappoiiaaRng
namespace Go.Proofs.Ytomdfgfappoiiaa
open Go.RowKit

theorem wpIn_range_hands2 (d t : Nat) {F : Fence} {n : Nat} {P : Program} {α : Type} {g : Operand} {ps : Array Tmp} {assign body : Code} {Q : Exit → Act → World → Prop} {a : Act} {w : World}
    (hro : F.round = none) (h1 : 1 ≤ n) {gf : Nat} {lb : Array Value} (hg : a.eval g = .func (.func gf) #[] lb) (hFg : F.fn gf) (eg : ∀ args w, (callFunc gf args).run P w = .ok (.enter gf args) w)
    {enc : α → Value} {xs : List α} {w0 : World} (hseq : Hands F (n - 1) P gf lb enc xs w0) (hb0 : Below w0.heap.size w0 w) (hps : ps.size = 1)
    (I : Nat → World → Prop) (Ix : Code → Nat → World → Prop) (hI : Stands w.heap.size I) (hIx : ∀ c, Stands w.heap.size (Ix c)) (h0 : I 0 w)
    (hassign : ∀ (l : Nat) (x : α) (W : World),
      assign.wpIn (F.inRound l) (n - 1 - 1) P (Exit.then (fun a' W' => a' = { tmps := (a.tmps.setIfInBounds t (enc x)).setIfInBounds d (enc x), defers := [] } ∧ W' = W) (fun _ _ _ => False)) { tmps := (ps.zip #[enc x]).foldl (fun t (p, v) => t.setIfInBounds p v) a.tmps, defers := [] } W)
    (hbody : ∀ (l k : Nat) (x : α) (W : World), xs[k]? = some x → I k W → body.wpIn (F.inRound l) (n - 1 - 1) P (leftBy w.heap.size I Ix (k + 1) W) { tmps := (a.tmps.setIfInBounds t (enc x)).setIfInBounds d (enc x), defers := [] } W)
    (hdone : ∀ (D : Nat) (W : World), w.heap.size ≤ D → I xs.length W → W.heap[D]? = some (.deferred (some [])) → Q .normal { a with defers := { target := .collected D, args := #[] } :: a.defers } W)
    (hstop : ∀ (D : Nat) (c : Code) (k : Nat) (W : World), w.heap.size ≤ D → k ≤ xs.length → Ix c k W → W.heap[D]? = some (.deferred (some [])) → c.wpIn F n P Q { a with defers := { target := .collected D, args := #[] } :: a.defers } W) :
    (Code.rangeFunc g ps assign body).wpIn F n P Q a w :=
  wpIn_range_hands hro h1 hg hFg eg hseq hb0 hps I Ix hI hIx h0 (fun x => { tmps := (a.tmps.setIfInBounds t (enc x)).setIfInBounds d (enc x), defers := [] })
    (fun l x W K hK => wpIn_mono (hassign l x W) (fun e a' W' h => by
      cases e with
      | normal => obtain ⟨rfl, rfl⟩ := h; exact hK
      | _ => exact h))
    hbody hdone hstop
end Go.Proofs.Ytomdfgfappoiiaa
