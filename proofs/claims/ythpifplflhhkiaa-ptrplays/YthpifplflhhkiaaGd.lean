/-
  geom.Devs, First, Of, Sectors, Takes: what they answer.
-/
import Derived.Test.YthpifplflhhkiaaGc
namespace Go.Proofs.Ythpifplflhhkiaa
set_option maxRecDepth 100000
open Go.RowKit

theorem first_any (l : List (Int × Int)) (s : Int) (v : Value) (w : World) (h : Meas w v l s) (i : Int) (hi : -9223372036854775808 ≤ i ∧ i ≤ 9223372036854775807) (x : Int) (hx : firstL l s i = x) :
    Calls Try.prog 61 #[v, .int .i64 i] w fun e w' => e = .returned (.int .i64 x) ∧ Below w.heap.size w w' := by
  have HH := Lib.hid (h.below (boxed w (.cells (match v with | .agg x => x | _ => #[]) 41)))
  obtain ⟨a, n, c, rfl, hg, s0, s1⟩ := h
  dsimp only at HH
  have HI := Lib.hid hi
  unfold firstL at hx
  clear hg hi
  cases hr : hasL l s i with
  | false =>
    rw [hr] at hx
    obtain rfl : 0 = x := by simpa using hx
    have HR := Lib.hid hr
    clear hr hx
    go_enter Try.func61, Try.ntmps61
    go_wp2_with fail
    refine (has_any l s _ _ HH.out i HI.out false HR.out).mono ?_
    rintro e w1 ⟨rfl, b1⟩
    go_wp2
    go_ret
    exact ⟨rfl, next (boxed _ _) b1⟩
  | true =>
    obtain ⟨hrm, k, rfl, hk⟩ := hasL_iff.1 hr
    have HX : Hid (aheadL l k = x) := Lib.hid (by rw [hr, if_pos rfl] at hx; exact hx)
    have HR := Lib.hid hr
    have HRM := Lib.hid hrm
    have HK := Lib.hid hk
    clear hr hx hk hrm
    go_enter Try.func61, Try.ntmps61
    go_wp2_with fail
    refine (has_any l s _ _ HH.out (k : Int) HI.out true HR.out).mono ?_
    rintro e w1 ⟨rfl, b1⟩
    have hc0 := b1.cell (p := ⟨w.heap.size, 0, none⟩) (by simp)
    have hc1 := b1.cell (p := ⟨w.heap.size, 1, none⟩) (by simp)
    simp at hc0 hc1
    have HM := Lib.hid (HH.out.below b1)
    have B1 := Lib.hid (next (boxed _ _) b1)
    clear b1 HH
    go_wp2_with fail
    refine (ahead_any l s _ _ HM.out HRM.out k (Nat.le_of_lt HK.out) x HX.out).mono ?_
    rintro e w2 ⟨rfl, b2⟩
    go_wp2
    go_ret
    exact ⟨rfl, next B1.out b2⟩

/-- A device's group and place. -/
def OwnOf (l : List (Int × Int)) (d : Int) (k : Nat) (j : Int) : Prop := ∃ h : k < l.length, 0 ≤ j ∧ j < l[k].2 ∧ aheadL l k + j = d

set_option maxHeartbeats 1000000 in
theorem sectors_none (l : List (Int × Int)) (s : Int) (v : Value) (w : World) (h : Meas w v l s) (i : Int) (hi : -9223372036854775808 ≤ i ∧ i ≤ 9223372036854775807) (hno : hasL l s i = false) :
    Calls Try.prog 52 #[v, .int .i64 i] w fun e w' => e = .returned (.int .i64 0) ∧ Below w.heap.size w w' := by
  have HH := Lib.hid (h.below (boxed w (.cells (match v with | .agg x => x | _ => #[]) 41)))
  obtain ⟨a, n, c, rfl, hg, s0, s1⟩ := h
  dsimp only at HH
  have HI := Lib.hid hi
  have HR := Lib.hid hno
  clear hg hi hno
  go_enter Try.func52, Try.ntmps52
  go_wp2_with fail
  refine (has_any l s _ _ HH.out i HI.out false HR.out).mono ?_
  rintro e w1 ⟨rfl, b1⟩
  go_wp2
  go_ret
  exact ⟨rfl, next (boxed _ _) b1⟩
set_option maxHeartbeats 1000000 in
theorem sectors_some (l : List (Int × Int)) (s : Int) (v : Value) (w : World) (h : Meas w v l s) (hr : RightM l s) (k : Nat) (hk : k < l.length) (x : Int) (hx : gives l[k] s = x) :
    Calls Try.prog 52 #[v, .int .i64 (k : Int)] w fun e w' => e = .returned (.int .i64 x) ∧ Below w.heap.size w w' := by
  have HH := Lib.hid (h.below (boxed w (.cells (match v with | .agg x => x | _ => #[]) 41)))
  obtain ⟨a, n, c, rfl, hg, s0, s1⟩ := h
  dsimp only at HH
  have HG := Lib.hid (hg.below (boxed w (.cells #[.slice a n c, .int .i64 s] 41)))
  have hn := hg.2.1
  have hn4 : n ≤ 4 := by rw [← hn]; exact hr.few
  have hkn : k < n := by rw [← hn]; exact hk
  have hi : -9223372036854775808 ≤ (k : Int) ∧ (k : Int) ≤ 9223372036854775807 := by omega
  have HI := Lib.hid hi
  have HHas : Hid (hasL l s (k : Int) = true) := Lib.hid (hasL_iff.2 ⟨hr, k, rfl, hk⟩)
  obtain ⟨kk, u, hG, hgk, hok⟩ : ∃ kk u, (∃ h : k < l.length, l[k] = (kk, u)) ∧ gives (kk, u) s = x ∧ okG (kk, u) = true := ⟨l[k].1, l[k].2, ⟨hk, rfl⟩, hx, hr.all k hk⟩
  have t0 := hr.s0
  have t1 := hr.s1
  have HL := Lib.hid hG
  clear hG hx hg hn hr hk hi
  go_enter Try.func52, Try.ntmps52
  go_wp2_with fail
  refine (has_any l s _ _ HH.out (k : Int) HI.out true HHas.out).mono ?_
  rintro e w1 ⟨rfl, b1⟩
  have hc0 := b1.cell (p := ⟨w.heap.size, 0, none⟩) (by simp)
  have hc1 := b1.cell (p := ⟨w.heap.size, 1, none⟩) (by simp)
  simp at hc0 hc1
  obtain ⟨g, o, k2, u2, rfl, hld, hGm⟩ := (HG.out.below b1).at_ k hkn
  obtain ⟨rfl, rfl⟩ : k2 = kk ∧ u2 = u := by
    obtain ⟨_, e1⟩ := HL.out
    obtain ⟨_, e2⟩ := hld
    rw [e1] at e2
    cases e2
    exact ⟨rfl, rfl⟩
  obtain ⟨hlt, c0, c1, p0, p1, q0, q1⟩ := hGm
  dsimp only at c0 c1 p0 p1 q0 q1
  have B1 := Lib.hid (next (boxed _ _) b1)
  clear b1 HH HG hld HL
  rcases okG_cases hok with ⟨rfl, u1, u8⟩ | ⟨rfl, u1, u8⟩
  · have HX : Hid (s - 16 = x) := Lib.hid (by rw [← hgk]; rfl)
    clear hgk hok
    go_wp2
    go_ret
    exact ⟨by rw [← HX.out]; rfl, next B1.out (boxed _ _)⟩
  · have HX : Hid ((s - 16) * u2 = x) := Lib.hid (by rw [← hgk]; rfl)
    clear hgk hok
    have hm0 : 0 ≤ (s - 16) * u2 := Int.mul_nonneg (by omega) (by omega)
    have hm1 : (s - 16) * u2 ≤ 32640 := by
      have : (s - 16) * u2 ≤ 4080 * 8 := Int.mul_le_mul (by omega) u8 (by omega) (by omega)
      omega
    go_wp2
    go_ret
    exact ⟨by rw [← HX.out]; rfl, next B1.out (boxed _ _)⟩
end Go.Proofs.Ythpifplflhhkiaa
