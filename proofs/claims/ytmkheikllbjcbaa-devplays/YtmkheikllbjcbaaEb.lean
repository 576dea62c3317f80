/-
  The document's Now.
-/
import Derived.Test.YtmkheikllbjcbaaEa
namespace Go.Proofs.Ytmkheikllbjcbaa
open Go.RowKit Go.Maps

set_option maxHeartbeats 1000000 in
theorem refNow_any (mb mc sb sc : Nat) (hd : Nat → Nat × Nat) (R : Dv) (rp : Nat → Prop) (k : Nat) (w : World) (h : RefV w mb mc sb sc hd R rp) (hk : k < R.med.length) (hc : R.cnt ≤ 4294967296) :
    Calls Try.prog 20 #[.agg (refCells R mb mc sb sc), .int .i64 (k : Int)] w fun e w' => e = .returned (.string (strOf (R.now k))) ∧ Below w.heap.size w w' := by
  have hs := h.sin.cells k hk
  have hm := h.med.cells k hk
  have hsl := h.sin.lt
  have hml := h.med.lt
  have hn2 := h.ok.n2
  have hlen := h.ok.cnts k
  have s1 : ∀ ob, (w.alloc ob).cell? ⟨sb, k, none⟩ = some (rvOf R hd k).val := fun ob => by rw [World.cell?_alloc_lt _ _ _ hsl]; exact hs
  have m1 : ∀ ob, (w.alloc ob).cell? ⟨mb, k, none⟩ = some (.string (strOf (R.med.getD k []))) := fun ob => by rw [World.cell?_alloc_lt _ _ _ hml]; exact hm
  unfold refCells
  by_cases e : R.since k = []
  · rw [now_none e]
    have e1 : rvOf R hd k = none := by unfold rvOf; rw [if_pos e]
    rw [e1] at s1
    simp only [Hd.val] at s1
    clear h hs hm e e1
    generalize R.med.length = n at *
    generalize strOf (R.med.getD k []) = st at *
    generalize fuseV R = fz at *
    generalize R.lost = lo at *
    go_enter Try.func20, Try.ntmps20
    go_wp2
    go_ret
    exact ⟨rfl, (Below.refl _ w).alloc (Nat.le_refl _) _⟩
  · have e1 : rvOf R hd k = some ((hd k).1, (R.since k).length, (hd k).2) := by unfold rvOf; rw [if_neg e]
    rw [e1] at s1
    simp only [Hd.val] at s1
    have hv := h.vers k e
    have hp : 0 < (R.since k).length := List.length_pos_iff.2 e
    have hcell := hv.cells ((R.since k).length - 1) (by omega)
    have hvl := hv.lt
    have hle := hv.le
    have hcap := hv.cap
    have hnow : (R.since k).getD ((R.since k).length - 1) [] = R.now k := by
      unfold Dv.now
      rw [List.getLastD_eq_getLast?, List.getLast?_eq_getElem?, List.getD_eq_getElem?_getD, List.getElem?_eq_getElem (by omega)]
      rfl
    rw [hnow] at hcell
    obtain ⟨j, hj⟩ : ∃ j, (R.since k).length = j + 1 := ⟨(R.since k).length - 1, by omega⟩
    rw [hj, show j + 1 - 1 = j by omega] at hcell
    rw [hj] at s1 hle hlen
    have v1 : ∀ ob, (w.alloc ob).cell? ⟨(hd k).1, j, none⟩ = some (.string (strOf (R.now k))) := fun ob => by rw [World.cell?_alloc_lt _ _ _ hvl]; exact hcell
    clear h hs hm e e1 hv hnow hj hp hcell m1
    generalize R.med.length = n at *
    generalize strOf (R.now k) = st at *
    generalize fuseV R = fz at *
    generalize R.lost = lo at *
    generalize (hd k).1 = g at *
    generalize (hd k).2 = c at *
    unfold maxLen at hcap
    go_enter Try.func20, Try.ntmps20
    go_wp2_with fail
    have q1 : IntKind.i64.wrap ((j : Int) + 1 - 1) = (j : Int) := by rw [show (j : Int) + 1 - 1 = j by omega]; exact IntWalk.i64_in _ (by omega)
    have q2 : IntKind.i64.wrap (j : Int) = (j : Int) := IntWalk.i64_in _ (by omega)
    have q3 : (j : Int) < (j : Int) + 1 := by omega
    have q4 : (k : Int) < (n : Int) := by omega
    go_quiet (fail)
    go_wp2
    go_ret
    exact ⟨rfl, below_drewN ((Below.refl _ w).alloc (Nat.le_refl _) _) _⟩
end Go.Proofs.Ytmkheikllbjcbaa
