/-
  The document's First, May (polderref06).
-/
import Derived.Test.YthpifplflhhkiaaGr
import Derived.Test.YthpifplflhhkiaaCo
namespace Go.Proofs.Ythpifplflhhkiaa
set_option maxRecDepth 100000
open Go.RowKit

theorem new_pair (U : World) (x y : Value) (ty : TypeId) : (U.alloc (.cells #[x, y] ty)).cell? ⟨U.heap.size, 0, none⟩ = some x ∧ (U.alloc (.cells #[x, y] ty)).cell? ⟨U.heap.size, 1, none⟩ = some y := by
  simp
set_option maxHeartbeats 2000000 in
theorem may_any (l : List (Int × Int)) (s : Int) (v : Value) (w : World) (h : Meas w v l s) (k t z : Int) (hk : I64 k) (ht : I64 t) (hz : I64 z) (b : Bool) (hb : mayL l s k t z = b) :
    Calls Try.prog 32 #[v, .agg #[.int .i64 k, .int .i64 t], .int .i64 z] w fun e w' => e = .returned (.bool b) ∧ Below w.heap.size w w' := by
  have K1 := h
  obtain ⟨a, n, c, rfl, hg⟩ := id h
  have hn := hg.1.2.1
  have hm := hg.1.1
  unfold maxLen at hm
  replace K1 := Lib.hid (HeldP.start k t K1)
  obtain ⟨r, hr⟩ : ∃ r, rightL l s = r := ⟨_, rfl⟩
  have HR := Lib.hid hr
  obtain ⟨k0, k1⟩ := hk
  obtain ⟨t0, t1⟩ := ht
  obtain ⟨z0, z1⟩ := hz
  have HN := Lib.hid hn
  have HNO : Hid (b = true → r = true ∧ 1 ≤ z ∧ z ≤ 4 ∧ 0 ≤ k ∧ k < n ∧ 0 ≤ t ∧ t ≤ 100000) := Lib.hid (by
    intro e
    rw [e] at hb
    obtain ⟨k', t', z', rfl, rfl, rfl, hB⟩ := mayL_iff.1 hb
    have h1 := hB.bounds
    have h2 := hB.hk
    have h3 := hB.z1
    have h4 := hB.z4
    exact ⟨by rw [← hr]; exact rightM_iff.2 hB.right, by omega, by omega, by omega, by omega, by omega, by omega⟩)
  have HB := Lib.hid hb
  clear h hg hr hn hb
  go_enter Try.func32, Try.ntmps32
  go_wp2_with fail
  refine (refRight_any l s _ _ K1.out.h.m r HR.out).mono ?_
  rintro e w1 ⟨rfl, b1⟩
  have K2 := Lib.hid (K1.out.next b1)
  clear b1 K1
  have c0 := K2.out.h.c0
  have c1 := K2.out.h.c1
  have p0 := K2.out.p0
  have p1 := K2.out.p1
  by_cases hgood : r = true ∧ 1 ≤ z ∧ z ≤ 4 ∧ 0 ≤ k ∧ k < n ∧ 0 ≤ t ∧ t ≤ 100000
  · obtain ⟨rfl, g1, g2, g3, g4, g5, g6⟩ := hgood
    have hrm := rightM_iff.1 HR.out
    obtain ⟨k, rfl⟩ := Int.eq_ofNat_of_zero_le g3
    have hkl : k < l.length := by rw [HN.out]; omega
    obtain ⟨kk, u, hlk, hok⟩ : ∃ kk u, l[k] = (kk, u) ∧ okG (kk, u) = true := ⟨l[k].1, l[k].2, rfl, hrm.all k hkl⟩
    obtain ⟨g, o, rfl, hlt, e0, e1⟩ := K2.out.h.at_ hkl hlk
    dsimp only at e0 e1
    obtain ⟨x, hx⟩ : ∃ x, takesG (kk, u) z = x := ⟨_, rfl⟩
    obtain ⟨y, hy⟩ : ∃ y, gives (kk, u) s = y := ⟨_, rfl⟩
    have hxb : 1 ≤ x ∧ x ≤ 6 := by rw [← hx]; exact takesG_pos _ _ g1 g2
    obtain ⟨x1, x6⟩ := hxb
    have hn4 : n ≤ 4 := by rw [← HN.out]; exact hrm.few
    have s0 := hrm.s0
    have s1 := hrm.s1
    have HBB : Hid (b = decide (t + x ≤ y)) := Lib.hid (by
      have h1 := HB.out
      unfold mayL at h1
      have h2 : hasL l s (k : Int) = true := hasL_iff.2 ⟨hrm, k, rfl, hkl⟩
      have e3 : (k : Int).toNat = k := by omega
      rw [h2, e3, getD_at hkl, hlk, hx, hy, decide_eq_true g1, decide_eq_true g2, decide_eq_true g5] at h1
      simpa using h1.symm)
    have HX := Lib.hid hx
    have HY := Lib.hid hy
    have HOK := Lib.hid hok
    have hkn : k < n := by omega
    clear hrm hx hy hlk hok hkl
    rcases okG_cases HOK.out with ⟨rfl, u1, u8⟩ | ⟨rfl, u1, u8⟩
    · clear g3
      have hym : s - 16 = y := by rw [← HY.out]; rfl
      have HYM := Lib.hid hym
      clear hym
      have hKW := K2.out.next (boxed w1 (.cells #[.int .i64 0, .int .i64 u] 69))
      have hx0 := (new_pair w1 (.int .i64 0) (.int .i64 u) 69).1
      have hx1 := (new_pair w1 (.int .i64 0) (.int .i64 u) 69).2
      have hxs : w1.heap.size < (w1.alloc (.cells #[.int .i64 0, .int .i64 u] 69)).heap.size := by simp
      have CT : Hid (∀ q : Ext (w1.alloc (.cells #[.int .i64 0, .int .i64 u] 69)), Calls Try.prog 33 #[.agg #[.int .i64 0, .int .i64 u], .int .i64 z] q.v fun e w' => e = .returned (.int .i64 x) ∧ ∃ q' : Ext (w1.alloc (.cells #[.int .i64 0, .int .i64 u] 69)), w' = q'.v) :=
        Lib.hid (Ext.calls fun w' _ => refTakes_any 0 u z w' HOK.out g1 g2 x HX.out)
      have hb1 := K2.out.h.lt
      have hb2 := K2.out.plt
      go_upto_region 7 with (fail)
      have HKW := Lib.hid hKW
      clear hKW c0 c1 p0 p1 e0 e1
      generalize w1.alloc (.cells #[.int .i64 0, .int .i64 u] 69) = W9 at *
      have f0 := fun q : Ext W9 => q.cell HKW.out.p1 HKW.out.plt
      have f1 := fun q : Ext W9 => q.cell hx0 hxs
      have f2 := fun q : Ext W9 => q.cell hx1 hxs
      clear hx0 hx1
      haveI hne : Nonempty (Ext W9) := Ext.some W9
      refine wp_region_family (Ext.v (W := W9)) (by kernel_rfl) (by kernel_rfl) ⟨⟨_, (Below.refl _ W9).drew⟩, rfl⟩ ?_
      repeat (go_big_quiet_step (first | (go_at_call 33; exact CT.out _)))
      refine wpQuiet_nil ?_
      rintro w7 ⟨⟨w8, h8⟩, rfl⟩
      go_wp2
      go_ret
      exact ⟨by rw [HBB.out, ← HYM.out]; rfl, next HKW.out.h.below h8⟩
    · clear g3
      have hym : (s - 16) * u = y := by rw [← HY.out]; rfl
      have hm0 : 0 ≤ (s - 16) * u := Int.mul_nonneg (by omega) (by omega)
      have hm1 : (s - 16) * u ≤ 32640 := by
        have : (s - 16) * u ≤ 4080 * 8 := Int.mul_le_mul (by omega) u8 (by omega) (by omega)
        omega
      have HYM := Lib.hid hym
      clear hym
      have hKW := K2.out.next (boxed w1 (.cells #[.int .i64 1, .int .i64 u] 69))
      have hx0 := (new_pair w1 (.int .i64 1) (.int .i64 u) 69).1
      have hx1 := (new_pair w1 (.int .i64 1) (.int .i64 u) 69).2
      have hxs : w1.heap.size < (w1.alloc (.cells #[.int .i64 1, .int .i64 u] 69)).heap.size := by simp
      have CT : Hid (∀ q : Ext (w1.alloc (.cells #[.int .i64 1, .int .i64 u] 69)), Calls Try.prog 33 #[.agg #[.int .i64 1, .int .i64 u], .int .i64 z] q.v fun e w' => e = .returned (.int .i64 x) ∧ ∃ q' : Ext (w1.alloc (.cells #[.int .i64 1, .int .i64 u] 69)), w' = q'.v) :=
        Lib.hid (Ext.calls fun w' _ => refTakes_any 1 u z w' HOK.out g1 g2 x HX.out)
      have hb1 := K2.out.h.lt
      have hb2 := K2.out.plt
      go_upto_region 7 with (fail)
      have HKW := Lib.hid hKW
      clear hKW c0 c1 p0 p1 e0 e1
      generalize w1.alloc (.cells #[.int .i64 1, .int .i64 u] 69) = W9 at *
      have f0 := fun q : Ext W9 => q.cell HKW.out.p1 HKW.out.plt
      have f1 := fun q : Ext W9 => q.cell hx0 hxs
      have f2 := fun q : Ext W9 => q.cell hx1 hxs
      clear hx0 hx1
      haveI hne : Nonempty (Ext W9) := Ext.some W9
      refine wp_region_family (Ext.v (W := W9)) (by kernel_rfl) (by kernel_rfl) ⟨⟨_, (Below.refl _ W9).drew⟩, rfl⟩ ?_
      repeat (go_big_quiet_step (first | (go_at_call 33; exact CT.out _)))
      refine wpQuiet_nil ?_
      rintro w7 ⟨⟨w8, h8⟩, rfl⟩
      go_wp2
      go_ret
      exact ⟨by rw [HBB.out, ← HYM.out]; rfl, next HKW.out.h.below h8⟩
  · have hbf : false = b := by
      cases e : b with
      | false => rfl
      | true => exact absurd (HNO.out e) hgood
    subst hbf
    have HNG := Lib.hid hgood
    clear hgood
    cases r with
    | false =>
      go_wp2
      go_ret
      exact ⟨rfl, K2.out.h.below⟩
    | true =>
      by_cases g1 : z < 1
      · go_wp2
        go_ret
        exact ⟨rfl, K2.out.h.below⟩
      by_cases g2 : 4 < z
      · go_wp2
        go_ret
        exact ⟨rfl, K2.out.h.below⟩
      by_cases g3 : k < 0
      · go_wp2
        go_ret
        exact ⟨rfl, K2.out.h.below⟩
      by_cases g4 : (n : Int) ≤ k
      · go_wp2
        go_ret
        exact ⟨rfl, K2.out.h.below⟩
      by_cases g5 : t < 0
      · go_wp2
        go_ret
        exact ⟨rfl, K2.out.h.below⟩
      have g6 : 100000 < t := by
        rcases ltge 100000 t with h | h
        · exact h
        · exact absurd ⟨rfl, by omega, by omega, by omega, by omega, by omega, h⟩ HNG.out
      go_wp2
      go_ret
      exact ⟨rfl, K2.out.h.below⟩
end Go.Proofs.Ythpifplflhhkiaa
