/-
  A text of zero bytes, made.
-/
import Derived.Test.YtckfhphobjjojaaPa
import Derived.Laws.MakeOwn
namespace Go.Proofs.Ytckfhphobjjojaa
open Go.RowKit M

theorem info_u8 : ∃ i, Try.prog.info? 5 = some i ∧ i.zero = some (.int .u8 0) ∧ i.size = 1 ∧ i.bytes = 1 := info_parts (by kernel_rfl)
/-- The world behind make([]byte, n). -/
def zerosW (w : World) (n : Nat) : World := w.alloc (.cells (madeCells #[.int .u8 0] n) 5)
theorem make_zeros (w : World) (n : Nat) (hn : n ≤ 4294967296) : (Instr.makeSlice 37 (.int .i64 n) (.int .i64 n)).run Try.prog w = .ok (.slice (some ⟨w.heap.size, 0, none⟩) n n) (zerosW w n) := by
  obtain ⟨i, hi, hz, hs, hb⟩ := info_u8
  have := run_make (P := Try.prog) w 37 5 i (.int .u8 0) Try.underlying37 hi hz .i64 .i64 n n (by omega) (by omega) (by rw [hb]; omega) (by omega)
  rw [this, hs, Nat.mul_one]
  rfl
theorem zerosW_row (w : World) (n : Nat) : RowB (zerosW w n) w.heap.size (List.replicate n 0) := by
  have hh : (zerosW w n).heap[w.heap.size]? = some (.cells (madeCells #[.int .u8 0] n) 5) := heap_alloc_new w _
  refine ⟨fun j hj => ?_, fun j hj => ?_, by simp [zerosW]⟩
  · rw [List.length_replicate] at hj
    have : (madeCells #[Value.int .u8 0] n)[j]? = some (.int .u8 0) := by
      simp [madeCells, hj, Nat.mod_one]
    simp [World.cell?, hh, this]
  · exact World.frozen?_alloc_at _ _ _ _ rfl
theorem conv_zeros (w : World) (n : Nat) : (convert 37 9 (.slice (some ⟨w.heap.size, 0, none⟩) n n)).run Try.prog (zerosW w n) = .ok (.string (zeroB n)) (zerosW w n) :=
  conv_from (zerosW w n) w.heap.size _ (zerosW_row w n) n n (by simp)
theorem zerosW_below (w : World) (n : Nat) : Below w.heap.size w (zerosW w n) := (Below.refl _ w).alloc (Nat.le_refl _) _
theorem zeroB_size (n : Nat) : (zeroB n).size = n := by rw [sizeL]; simp [zeroB]
end Go.Proofs.Ytckfhphobjjojaa
