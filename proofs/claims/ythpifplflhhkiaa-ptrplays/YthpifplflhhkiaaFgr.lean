/-
  fletch.grow, Sum, More: what they answer.
-/
import Derived.Test.YthpifplflhhkiaaFit
namespace Go.Proofs.Ythpifplflhhkiaa
set_option maxRecDepth 100000
open Go.RowKit Go.Shelf M
attribute [local go_sem] Oper.semAt_some

/-- Block b holds the four numbers of a sum. -/
structure HoldsQ (W : World) (b : Nat) (q : Q) : Prop where
  c0 : W.cell? ⟨b, 0, none⟩ = some (.int .u64 q.a)
  c1 : W.cell? ⟨b, 1, none⟩ = some (.int .u64 q.b)
  c2 : W.cell? ⟨b, 2, none⟩ = some (.int .u64 q.c)
  c3 : W.cell? ⟨b, 3, none⟩ = some (.int .u64 q.d)
  f0 : W.frozen? ⟨b, 0, none⟩ = false
  f1 : W.frozen? ⟨b, 1, none⟩ = false
  f2 : W.frozen? ⟨b, 2, none⟩ = false
  f3 : W.frozen? ⟨b, 3, none⟩ = false

theorem HoldsQ.new (w : World) (q : Q) (t : TypeId) : HoldsQ (w.alloc (.cells #[.int .u64 q.a, .int .u64 q.b, .int .u64 q.c, .int .u64 q.d] t)) w.heap.size q :=
  ⟨by simp, by simp, by simp, by simp, World.frozen?_alloc_at _ _ _ _ rfl, World.frozen?_alloc_at _ _ _ _ rfl, World.frozen?_alloc_at _ _ _ _ rfl, World.frozen?_alloc_at _ _ _ _ rfl⟩
theorem HoldsQ.below {W W' : World} {b B : Nat} {q : Q} (h : HoldsQ W b q) (hb : Below B W W') (hB : b < B) : HoldsQ W' b q :=
  ⟨by rw [hb.cell (p := ⟨b, 0, none⟩) hB]; exact h.c0, by rw [hb.cell (p := ⟨b, 1, none⟩) hB]; exact h.c1, by rw [hb.cell (p := ⟨b, 2, none⟩) hB]; exact h.c2, by rw [hb.cell (p := ⟨b, 3, none⟩) hB]; exact h.c3,
    by rw [hb.frozen (p := ⟨b, 0, none⟩) hB]; exact h.f0, by rw [hb.frozen (p := ⟨b, 1, none⟩) hB]; exact h.f1, by rw [hb.frozen (p := ⟨b, 2, none⟩) hB]; exact h.f2, by rw [hb.frozen (p := ⟨b, 3, none⟩) hB]; exact h.f3⟩
/-- The four cells stored one behind the other. -/
def putQ (W : World) (b : Nat) (q : Q) : World := (((W.setCell ⟨b, 0, none⟩ (.int .u64 q.a)).setCell ⟨b, 1, none⟩ (.int .u64 q.b)).setCell ⟨b, 2, none⟩ (.int .u64 q.c)).setCell ⟨b, 3, none⟩ (.int .u64 q.d)
theorem HoldsQ.put {W : World} {b : Nat} {q : Q} (h : HoldsQ W b q) (q' : Q) : HoldsQ (putQ W b q') b q' := by
  obtain ⟨h0, h1, h2, h3, f0, f1, f2, f3⟩ := h
  refine ⟨?_, ?_, ?_, ?_, ?_, ?_, ?_, ?_⟩
  all_goals simp [putQ, World.cell?_setCell_other, World.cell?_setCell_same', h0, h1, h2, h3, f0, f1, f2, f3]
theorem HoldsQ.putOther {W : World} {b d : Nat} {q : Q} (h : HoldsQ W d q) (hne : d ≠ b) (q' : Q) : HoldsQ (putQ W b q') d q := by
  obtain ⟨h0, h1, h2, h3, f0, f1, f2, f3⟩ := h
  have hne' : b ≠ d := fun e => hne e.symm
  refine ⟨?_, ?_, ?_, ?_, ?_, ?_, ?_, ?_⟩
  all_goals simp [putQ, World.cell?_setCell_other, h0, h1, h2, h3, f0, f1, f2, f3]
theorem putQ_below {W : World} {B b : Nat} (hB : B ≤ b) (q : Q) : Below B W (putQ W b q) :=
  ((((Below.refl _ _).setCell hB _).setCell hB _).setCell hB _).setCell hB _
theorem putQ_since {W : World} {B b : Nat} (hB : b < B) (q : Q) : Since B W (putQ W b q) :=
  ((((Since.refl _ _).setCell hB _).setCell hB _).setCell hB _).setCell hB _

theorem putQ_heap {W : World} {b k : Nat} (h : k ≠ b) (q : Q) : (putQ W b q).heap[k]? = W.heap[k]? := by
  unfold putQ
  rw [Below.heap_setCell _ _ _ _ h, Below.heap_setCell _ _ _ _ h, Below.heap_setCell _ _ _ _ h, Below.heap_setCell _ _ _ _ h]
theorem wrap_add (a x : Nat) : IntKind.u64.wrap ((a : Int) + (x : Int)) = (((a + x) % 18446744073709551616 : Nat) : Int) := by
  rw [IntKind.wrap_u64]; omega

end Go.Proofs.Ythpifplflhhkiaa
