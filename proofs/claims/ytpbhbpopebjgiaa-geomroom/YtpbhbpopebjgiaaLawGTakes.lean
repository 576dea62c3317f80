/-
  The walk of polderlaw05.GeomTakes.
-/
import Derived.Test.YtpbhbpopebjgiaaGh
namespace Go.Proofs.Ytpbhbpopebjgiaa
open Go.RowKit

theorem takesG_facts (kk u z : Int) (h : okG (kk, u) = true) (z1 : 1 ≤ z) (z4 : z ≤ 4) :
    0 ≤ takesG (kk, u) z ∧ takesG (kk, u) z ≤ 6 ∧ takesG (kk, u) z ≤ 2 * z + 1 ∧ (1 < z → takesG (kk, u) (z - 1) ≤ takesG (kk, u) z) ∧ ((kk = 0 ∧ takesG (kk, u) z = z) ∨ (kk = 1 ∧ z < takesG (kk, u) z ∧ (takesG (kk, u) z = 2 ∨ takesG (kk, u) z = 4 ∨ takesG (kk, u) z = 6))) := by
  have hz : z = 1 ∨ z = 2 ∨ z = 3 ∨ z = 4 := by omega
  rcases okG_cases h with ⟨rfl, _, _⟩ | ⟨rfl, _, _⟩
  · unfold takesG; simp; omega
  · by_cases e : u = 3
    · subst e
      rcases hz with rfl | rfl | rfl | rfl <;> decide
    · rcases hz with rfl | rfl | rfl | rfl <;> simp [takesG, e]

set_option maxHeartbeats 1000000 in
theorem takesNo (v : Value) (l : List (Int × Int)) (s a1 a2 : Int) (w : World) (h : Meas w v l s) (i0 : -9223372036854775808 ≤ a1) (i1 : a1 ≤ 9223372036854775807) (z0 : -9223372036854775808 ≤ a2) (z1 : a2 ≤ 9223372036854775807)
    (b : Bool) (hb : rightL l s = b) (hno : b = false ∨ a1 < 0 ∨ l.length ≤ a1 ∨ a2 < 1 ∨ 4 < a2) :
    Calls Try.prog 4 #[v, .int .i64 a1, .int .i64 a2] w fun e w' => e = .returned (.bool true) ∧ Below w.heap.size w w' := by
  have hno' : hasL l s a1 = false ∨ a2 < 1 ∨ 4 < a2 := by
    unfold hasL
    rw [hb]
    rcases hno with h | h | h | h | h
    · exact .inl (by simp [h])
    · exact .inl (by simp; intro _ _; omega)
    · exact .inl (by simp; intro _ _; omega)
    · exact .inr (.inl h)
    · exact .inr (.inr h)
  have HB := Lib.hid hb
  have HN := Lib.hid hno'
  obtain ⟨a, n, c, rfl, hg⟩ := id h
  have hn := hg.1.2.1
  have hm := hg.1.1
  unfold maxLen at hm
  rw [hn] at hno
  have HI : Hid (-9223372036854775808 ≤ a1 ∧ a1 ≤ 9223372036854775807) := Lib.hid ⟨i0, i1⟩
  have HZ : Hid (-9223372036854775808 ≤ a2 ∧ a2 ≤ 9223372036854775807) := Lib.hid ⟨z0, z1⟩
  have K := Lib.hid (Held.start h)
  clear h hg hn hb hno'
  go_enter Try.func4, Try.ntmps4
  go_wp2_with fail
  refine (awake_any _).mono ?_
  rintro e w1 ⟨rfl, b1⟩
  have K1 := Lib.hid (K.out.next b1)
  have c0 := K1.out.c0
  have c1 := K1.out.c1
  clear b1 K
  go_wp2_with fail
  refine (takes_none l s _ _ K1.out.m a1 a2 HI.out HZ.out HN.out).mono ?_
  rintro e w2 ⟨rfl, b2⟩
  have K2 := Lib.hid (K1.out.next b2)
  clear c0 c1 b2 K1
  have c0 := K2.out.c0
  have c1 := K2.out.c1
  go_wp2_with fail
  refine (right_any l s _ _ K2.out.m b HB.out).mono ?_
  rintro e w3 ⟨rfl, b3⟩
  have K3 := Lib.hid (K2.out.next b3)
  clear c0 c1 b3 K2
  have c0 := K3.out.c0
  have c1 := K3.out.c1
  cases b with
  | false =>
    go_wp2
    go_ret
    exact ⟨rfl, K3.out.below⟩
  | true =>
    by_cases h1 : a1 < 0
    · clear hno
      go_wp2
      go_ret
      exact ⟨rfl, K3.out.below⟩
    by_cases h2 : (n : Int) ≤ a1
    · clear hno
      go_wp2
      go_ret
      exact ⟨rfl, K3.out.below⟩
    by_cases h3 : a2 < 1
    · clear hno
      go_wp2
      go_ret
      exact ⟨rfl, K3.out.below⟩
    have h4 : 4 < a2 := by
      rcases hno with h | h | h | h | h
      · cases h
      · omega
      · omega
      · omega
      · exact h
    clear hno
    go_wp2
    go_ret
    exact ⟨rfl, K3.out.below⟩

set_option maxHeartbeats 1000000 in
theorem takesYes (v : Value) (l : List (Int × Int)) (s : Int) (k : Nat) (z : Int) (w : World) (h : Meas w v l s) (hr : RightM l s) (hk : k < l.length) (z1 : 1 ≤ z) (z4 : z ≤ 4) :
    Calls Try.prog 4 #[v, .int .i64 (k : Int), .int .i64 z] w fun e w' => e = .returned (.bool true) ∧ Below w.heap.size w w' := by
  obtain ⟨a, n, c, rfl, hg⟩ := id h
  have hn := hg.1.2.1
  have hn4 : n ≤ 4 := by rw [← hn]; exact hr.few
  have hkn : k < n := by rw [← hn]; exact hk
  obtain ⟨kk, u, hl, hok⟩ : ∃ kk u, l[k] = (kk, u) ∧ okG (kk, u) = true := ⟨l[k].1, l[k].2, rfl, hr.all k hk⟩
  obtain ⟨x0, x6, _, hxy, hfin⟩ := takesG_facts kk u z hok z1 z4
  generalize hx : takesG (kk, u) z = x at x0 x6 hxy hfin
  generalize hy : takesG (kk, u) (z - 1) = y at hxy
  have HX : Hid (takesG l[k] z = x) := Lib.hid (by rw [hl]; exact hx)
  have HY : Hid (takesG l[k] (z - 1) = y) := Lib.hid (by rw [hl]; exact hy)
  have HR := Lib.hid hr
  have K := Lib.hid (Held.start h)
  have HL : Hid (∃ hk : k < l.length, l[k] = (kk, u)) := Lib.hid ⟨hk, hl⟩
  have hy6 : 1 < z → -10 ≤ y ∧ y ≤ x := fun hz => ⟨by
    have := (takesG_facts kk u (z - 1) hok (by omega) (by omega)).1
    rw [hy] at this; omega, hxy hz⟩
  clear h hg hn hr hx hy hl hok hxy
  go_enter Try.func4, Try.ntmps4
  go_wp2_with fail
  refine (awake_any _).mono ?_
  rintro e w1 ⟨rfl, b1⟩
  have K1 := Lib.hid (K.out.next b1)
  have c0 := K1.out.c0
  have c1 := K1.out.c1
  clear b1 K
  go_wp2_with fail
  refine (takes_some l s _ _ K1.out.m HR.out k hk z z1 z4 x HX.out).mono ?_
  rintro e w2 ⟨rfl, b2⟩
  have K2 := Lib.hid (K1.out.next b2)
  clear c0 c1 b2 K1
  have c0 := K2.out.c0
  have c1 := K2.out.c1
  go_wp2_with fail
  refine (right_any l s _ _ K2.out.m true (rightM_iff.2 HR.out)).mono ?_
  rintro e w3 ⟨rfl, b3⟩
  have K3 := Lib.hid (K2.out.next b3)
  clear c0 c1 b3 K2
  have c0 := K3.out.c0
  have c1 := K3.out.c1
  by_cases hz1 : z = 1
  · subst hz1
    obtain ⟨g, o, rfl, hlt, d0, d1⟩ := K3.out.at_ HL.out.1 HL.out.2
    dsimp only at d0 d1
    clear hy6 HX HY
    rcases hfin with ⟨rfl, rfl⟩ | ⟨rfl, hgt, rfl | rfl | rfl⟩ <;>
      (go_wp2; go_ret; exact ⟨rfl, K3.out.below⟩)
  · have hz2 : 1 < z := by omega
    obtain ⟨y0, yx⟩ := hy6 hz2
    clear hy6
    go_wp2_with fail
    refine (takes_some l s _ _ K3.out.m HR.out k hk (z - 1) (by omega) (by omega) y HY.out).mono ?_
    rintro e w4 ⟨rfl, b4⟩
    have K4 := Lib.hid (K3.out.next b4)
    clear c0 c1 b4 K3
    have c0 := K4.out.c0
    have c1 := K4.out.c1
    obtain ⟨g, o, rfl, hlt, d0, d1⟩ := K4.out.at_ HL.out.1 HL.out.2
    dsimp only at d0 d1
    clear HX HY
    rcases hfin with ⟨rfl, rfl⟩ | ⟨rfl, hgt, rfl | rfl | rfl⟩ <;>
      first | (exfalso; omega) | (go_wp2; go_ret; exact ⟨rfl, K4.out.below⟩)

theorem walk_GeomTakes (v0 : Value) (l0 : List (Int × Int)) (s0 a1 a2 : Int) (w : World) (w0 : Meas w v0 l0 s0) (w1 : (Lit.int .i64 a1).wf = true) (w2 : (Lit.int .i64 a2).wf = true) :
    Calls Try.prog 4 #[v0, .int .i64 a1, .int .i64 a2] w fun e w' => e = .returned (.bool true) ∧ Below w.heap.size w w' := by
  obtain ⟨i0, i1⟩ := bounds_i64 w1
  obtain ⟨z0, z1⟩ := bounds_i64 w2
  cases hr : rightL l0 s0 with
  | false => exact takesNo v0 l0 s0 a1 a2 w w0 i0 i1 z0 z1 false hr (.inl rfl)
  | true =>
    by_cases h : a1 < 0 ∨ (l0.length : Int) ≤ a1 ∨ a2 < 1 ∨ 4 < a2
    · exact takesNo v0 l0 s0 a1 a2 w w0 i0 i1 z0 z1 true hr (.inr h)
    · obtain ⟨k, rfl⟩ : ∃ k : Nat, a1 = k := ⟨a1.toNat, by omega⟩
      exact takesYes v0 l0 s0 k a2 w w0 (rightM_iff.1 hr) (by omega) (by omega) (by omega)
end Go.Proofs.Ytpbhbpopebjgiaa
