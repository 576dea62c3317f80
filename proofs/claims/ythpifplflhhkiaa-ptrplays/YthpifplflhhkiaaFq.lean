/-
  Two sums compared: an array of four numbers is another one if all its numbers are the other's.
-/
import Derived.Test.YthpifplflhhkiaaChecked
import Derived.WalkKit
import Derived.ChangeKeysEq
import Derived.Laws.StructEq
import Derived.Lib.Hide
namespace Go.Proofs.Ythpifplflhhkiaa
set_option maxRecDepth 100000
open Go.RowKit

/-- Are four numbers four others? -/
def eq4 (a b c d a' b' c' d' : Int) : Bool := a == a' && (b == b' && (c == c' && d == d'))
theorem eq4_true {a b c d a' b' c' d' : Int} (h0 : a = a') (h1 : b = b') (h2 : c = c') (h3 : d = d') : eq4 a b c d a' b' c' d' = true := by
  subst h0 h1 h2 h3; simp [eq4]
theorem eq4_false {a b c d a' b' c' d' : Int} (h : ¬ (a = a' ∧ b = b' ∧ c = c' ∧ d = d')) : eq4 a b c d a' b' c' d' = false := by
  rw [← Bool.not_eq_true]
  intro e
  apply h
  simpa [eq4] using e

theorem sum_guard : Try.prog.eqGuardType Try.prog.depth 26 = false := by kernel_rfl
theorem sum_info : ∃ i, Try.prog.info? 24 = some i := by
  cases h : Try.prog.info? 24 with
  | some i => exact ⟨i, rfl⟩
  | none =>
    have : (Try.prog.info? 24).isSome = true := by kernel_rfl
    rw [h] at this; cases this
theorem sum_equal (a b c d a' b' c' d' : Int) (w : World) :
    (Op.equalIn 10000 26 (.agg #[.int .u64 a, .int .u64 b, .int .u64 c, .int .u64 d]) (.agg #[.int .u64 a', .int .u64 b', .int .u64 c', .int .u64 d'])).run Try.prog w = .ok (eq4 a b c d a' b' c' d') w := by
  obtain ⟨i, hi⟩ := sum_info
  rw [run_equalIn_array (P := Try.prog) w 9999 (n := 4) (e := 24) _ _ Try.underlying26 hi]
  have hc : Try.prog.cellsOf 24 = 1 := by kernel_rfl
  rw [hc]
  simp [Op.eqItems, List.range, List.range.loop, go_sem]
  by_cases h0 : a = a' <;> by_cases h1 : b = b' <;> by_cases h2 : c = c' <;> by_cases h3 : d = d' <;> simp [eq4, h0, h1, h2, h3]
theorem sum_at0 (a b c d : Int) (w : World) : (Instr.index 26 (.agg #[.int .u64 a, .int .u64 b, .int .u64 c, .int .u64 d]) (.int .i64 0)).run Try.prog w = .ok (.int .u64 a) w := by kernel_rfl
theorem sum_at1 (a b c d : Int) (w : World) : (Instr.index 26 (.agg #[.int .u64 a, .int .u64 b, .int .u64 c, .int .u64 d]) (.int .i64 1)).run Try.prog w = .ok (.int .u64 b) w := by kernel_rfl
theorem sum_at2 (a b c d : Int) (w : World) : (Instr.index 26 (.agg #[.int .u64 a, .int .u64 b, .int .u64 c, .int .u64 d]) (.int .i64 2)).run Try.prog w = .ok (.int .u64 c) w := by kernel_rfl
theorem sum_at3 (a b c d : Int) (w : World) : (Instr.index 26 (.agg #[.int .u64 a, .int .u64 b, .int .u64 c, .int .u64 d]) (.int .i64 3)).run Try.prog w = .ok (.int .u64 d) w := by kernel_rfl
end Go.Proofs.Ythpifplflhhkiaa
