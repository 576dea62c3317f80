/-
  The walk of polderlaw01.LeUnlike: it returns true, and writes nothing that was there.
-/
import Derived.Test.YtmopopgablakaaaWords2
namespace Go.Proofs.Ytmopopgablakaaa
open Go.RowKit M

set_option maxHeartbeats 4000000 in
theorem walk_LeUnlike (x y n m : Int) (w : World) (w0 : (Lit.int .u64 x).wf = true) (w1 : (Lit.int .u64 y).wf = true) (_w2 : (Lit.int .i64 n).wf = true) (_w3 : (Lit.int .i64 m).wf = true) :
    Calls Try.prog 4 #[.int .u64 x, .int .u64 y, .int .i64 n, .int .i64 m] w fun e w' => e = .returned (.bool true) ∧ Below w.heap.size w w' := by
  obtain ⟨hx0, hx1⟩ : 0 ≤ x ∧ x ≤ 18446744073709551615 := by simpa [Lit.wf, IntKind.min, IntKind.max, IntKind.signed, IntKind.bits] using w0
  obtain ⟨hy0, hy1⟩ : 0 ≤ y ∧ y ≤ 18446744073709551615 := by simpa [Lit.wf, IntKind.min, IntKind.max, IntKind.signed, IntKind.bits] using w1
  clear w0 w1
  obtain ⟨a, rfl⟩ := Int.eq_ofNat_of_zero_le hx0
  obtain ⟨b, rfl⟩ := Int.eq_ofNat_of_zero_le hy0
  have ha : a < 18446744073709551616 := by omega
  have hb : b < 18446744073709551616 := by omega
  clear hx0 hy0 hx1 hy1
  go_enter Try.func4, Try.ntmps4
  go_wp2_with fail
  refine (awake_any _).mono ?_
  rintro e w1 ⟨rfl, b1⟩
  go_wp2_with fail
  refine (u64_any a _ ha).mono ?_
  rintro e w2 ⟨rfl, b2⟩
  go_wp2_with fail
  refine (u64_any b _ hb).mono ?_
  rintro e w3 ⟨rfl, b3⟩
  have hab : (layL a 8 == layL b 8) = ((a : Int) == (b : Int)) := by
    rw [Bool.eq_iff_iff, beq_iff_eq, beq_iff_eq, lay8_iff a b ha hb]; omega
  go_wp2_with fail
  refine (u64_any a _ ha).mono ?_
  rintro e w4 ⟨rfl, b4⟩
  have hl8 : (layL a 8).length = 8 := layL_length 8 a
  go_wp2_with fail
  clear hl8
  refine (u32_all n _).mono ?_
  rintro e w5 ⟨rfl, b5⟩
  go_wp2_with fail
  refine (u32_all m _).mono ?_
  rintro e w6 ⟨rfl, b6⟩
  go_wp2_with fail
  refine (int_all n _).mono ?_
  rintro e w7 ⟨rfl, b7⟩
  go_wp2_with fail
  refine (int_all m _).mono ?_
  rintro e w8 ⟨rfl, b8⟩
  have B8 : Below w.heap.size w w8 := by
    have c2 := b1.trans (b2.mono b1.size)
    have c3 := c2.trans (b3.mono c2.size)
    have c4 := c3.trans (b4.mono c3.size)
    have c5 := c4.trans (b5.mono c4.size)
    have c6 := c5.trans (b6.mono c5.size)
    have c7 := c6.trans (b7.mono c6.size)
    exact c7.trans (b8.mono c7.size)
  clear b1 b2 b3 b4 b5 b6 b7 b8 hab
  have hu : ¬ u32L n = [] → ¬ u32L m = [] → (u32L n == u32L m) = (n == m) := fun h1 h2 => by
    rw [Bool.eq_iff_iff, beq_iff_eq, beq_iff_eq]; exact u32L_inj n m h1 h2
  have hi : ¬ intL n = [] → ¬ intL m = [] → (intL n == intL m) = (n == m) := fun h1 h2 => by
    rw [Bool.eq_iff_iff, beq_iff_eq, beq_iff_eq]; exact intL_inj n m h1 h2
  by_cases u1 : u32L n = [] <;> by_cases u2 : u32L m = [] <;> by_cases u3 : intL n = [] <;> by_cases u4 : intL m = []
  all_goals
    go_wp2
    go_ret
    exact ⟨rfl, B8⟩
end Go.Proofs.Ytmopopgablakaaa
