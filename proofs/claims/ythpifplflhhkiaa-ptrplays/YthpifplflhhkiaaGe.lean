/-
  geom.Takes, and polderlaw05.awake: what they answer.
-/
import Derived.Test.YthpifplflhhkiaaGd
namespace Go.Proofs.Ythpifplflhhkiaa
set_option maxRecDepth 100000
open Go.RowKit

def takesL (l : List (Int × Int)) (s i z : Int) : Int := if hasL l s i && decide (1 ≤ z) && decide (z ≤ 4) then takesG (l.getD i.toNat (0, 0)) z else 0

set_option maxHeartbeats 1000000 in
theorem takes_none (l : List (Int × Int)) (s : Int) (v : Value) (w : World) (h : Meas w v l s) (i z : Int) (hi : -9223372036854775808 ≤ i ∧ i ≤ 9223372036854775807) (hz : -9223372036854775808 ≤ z ∧ z ≤ 9223372036854775807)
    (hno : hasL l s i = false ∨ z < 1 ∨ 4 < z) :
    Calls Try.prog 43 #[v, .int .i64 i, .int .i64 z] w fun e w' => e = .returned (.int .i64 0) ∧ Below w.heap.size w w' := by
  have HH := Lib.hid (h.below (boxed w (.cells (match v with | .agg x => x | _ => #[]) 41)))
  obtain ⟨a, n, c, rfl, hg, s0, s1⟩ := h
  dsimp only at HH
  obtain ⟨z0, z1⟩ := hz
  have HI := Lib.hid hi
  clear hg hi
  cases hr : hasL l s i with
  | false =>
    have HR := Lib.hid hr
    clear hr hno
    go_enter Try.func43, Try.ntmps43
    go_wp2_with fail
    refine (has_any l s _ _ HH.out i HI.out false HR.out).mono ?_
    rintro e w1 ⟨rfl, b1⟩
    go_wp2
    go_ret
    exact ⟨rfl, next (boxed _ _) b1⟩
  | true =>
    have HR := Lib.hid hr
    rw [hr] at hno
    have hno' : z < 1 ∨ 4 < z := by simpa using hno
    clear hr hno
    by_cases h1 : z < 1
    · clear hno'
      go_enter Try.func43, Try.ntmps43
      go_wp2_with fail
      refine (has_any l s _ _ HH.out i HI.out true HR.out).mono ?_
      rintro e w1 ⟨rfl, b1⟩
      go_wp2
      go_ret
      exact ⟨rfl, next (boxed _ _) b1⟩
    · have h4 : 4 < z := by omega
      clear hno'
      go_enter Try.func43, Try.ntmps43
      go_wp2_with fail
      refine (has_any l s _ _ HH.out i HI.out true HR.out).mono ?_
      rintro e w1 ⟨rfl, b1⟩
      go_wp2
      go_ret
      exact ⟨rfl, next (boxed _ _) b1⟩
set_option maxHeartbeats 2000000 in
theorem takes_some (l : List (Int × Int)) (s : Int) (v : Value) (w : World) (h : Meas w v l s) (hr : RightM l s) (k : Nat) (hk : k < l.length) (z : Int) (z1 : 1 ≤ z) (z4 : z ≤ 4) (x : Int) (hx : takesG l[k] z = x) :
    Calls Try.prog 43 #[v, .int .i64 (k : Int), .int .i64 z] w fun e w' => e = .returned (.int .i64 x) ∧ Below w.heap.size w w' := by
  have HH := Lib.hid (h.below (boxed w (.cells (match v with | .agg x => x | _ => #[]) 41)))
  obtain ⟨a, n, c, rfl, hg, s0, s1⟩ := h
  dsimp only at HH
  have HG := Lib.hid (hg.below (boxed w (.cells #[.slice a n c, .int .i64 s] 41)))
  have hn := hg.2.1
  have hn4 : n ≤ 4 := by rw [← hn]; exact hr.few
  have hkn : k < n := by rw [← hn]; exact hk
  have hi : -9223372036854775808 ≤ (k : Int) ∧ (k : Int) ≤ 9223372036854775807 := by omega
  have HI := Lib.hid hi
  have HHas : Hid (hasL l s (k : Int) = true) := Lib.hid (hasL_iff.2 ⟨hr, k, rfl, hk⟩)
  obtain ⟨kk, u, hG, hgk, hok⟩ : ∃ kk u, (∃ h : k < l.length, l[k] = (kk, u)) ∧ takesG (kk, u) z = x ∧ okG (kk, u) = true := ⟨l[k].1, l[k].2, ⟨hk, rfl⟩, hx, hr.all k hk⟩
  have HL := Lib.hid hG
  clear hG hx hg hn hr hk hi
  go_enter Try.func43, Try.ntmps43
  go_wp2_with fail
  refine (has_any l s _ _ HH.out (k : Int) HI.out true HHas.out).mono ?_
  rintro e w1 ⟨rfl, b1⟩
  have hc0 := b1.cell (p := ⟨w.heap.size, 0, none⟩) (by simp)
  have hc1 := b1.cell (p := ⟨w.heap.size, 1, none⟩) (by simp)
  simp at hc0 hc1
  obtain ⟨g, o, k2, u2, rfl, hld, hGm⟩ := (HG.out.below b1).at_ k hkn
  obtain ⟨rfl, rfl⟩ : k2 = kk ∧ u2 = u := by
    obtain ⟨_, e1⟩ := HL.out
    obtain ⟨_, e2⟩ := hld
    rw [e1] at e2
    cases e2
    exact ⟨rfl, rfl⟩
  obtain ⟨hlt, c0, c1, p0, p1, q0, q1⟩ := hGm
  dsimp only at c0 c1 p0 p1 q0 q1
  have B1 := Lib.hid (next (boxed _ _) b1)
  clear b1 HH HG hld HL
  rcases okG_cases hok with ⟨rfl, u1, u8⟩ | ⟨rfl, u1, u8⟩
  · have HX : Hid (z = x) := Lib.hid (by rw [← hgk]; rfl)
    clear hgk hok
    go_wp2
    go_ret
    exact ⟨by rw [← HX.out]; rfl, next B1.out (boxed _ _)⟩
  · have hzz : z = 1 ∨ z = 2 ∨ z = 3 ∨ z = 4 := by omega
    have huu : u2 = 3 ∨ u2 = 4 ∨ u2 = 5 ∨ u2 = 6 ∨ u2 = 7 ∨ u2 = 8 := by omega
    have HX := Lib.hid hgk
    clear hgk hok z1 z4 u1 u8 p0 p1 q0 q1
    rcases hzz with rfl | rfl | rfl | rfl <;> rcases huu with rfl | rfl | rfl | rfl | rfl | rfl <;>
      (go_wp2; go_ret; exact ⟨by rw [← HX.out]; rfl, next B1.out (boxed _ _)⟩)
end Go.Proofs.Ythpifplflhhkiaa
