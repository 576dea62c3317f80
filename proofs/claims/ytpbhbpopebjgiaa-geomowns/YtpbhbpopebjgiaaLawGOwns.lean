/-
  The walk of polderlaw05.GeomOwns.
-/
import Derived.Test.YtpbhbpopebjgiaaGh
namespace Go.Proofs.Ytpbhbpopebjgiaa
open Go.RowKit

set_option maxHeartbeats 1000000 in
theorem ownsNo (v : Value) (l : List (Int × Int)) (s d : Int) (w : World) (h : Meas w v l s) (i0 : -9223372036854775808 ≤ d) (i1 : d ≤ 9223372036854775807) (b : Bool) (hb : rightL l s = b) (x : Int) (hx : devsL l s = x) (hno : d < 0 ∨ x ≤ d) :
    Calls Try.prog 3 #[v, .int .i64 d] w fun e w' => e = .returned (.bool true) ∧ Below w.heap.size w w' := by
  have HB := Lib.hid hb
  have HX := Lib.hid hx
  have HN : Hid (d < 0 ∨ devsL l s ≤ d) := Lib.hid (by rw [hx]; exact hno)
  have hx0 : b = false → x = 0 := fun e => by rw [← hx, devsL, hb, e]; rfl
  obtain ⟨a, n, c, rfl, hg⟩ := id h
  have HI : Hid (-9223372036854775808 ≤ d ∧ d ≤ 9223372036854775807) := Lib.hid ⟨i0, i1⟩
  have K := Lib.hid (Held.start h)
  clear h hg hb hx
  go_enter Try.func3, Try.ntmps3
  go_wp2_with fail
  refine (awake_any _).mono ?_
  rintro e w1 ⟨rfl, b1⟩
  have K1 := Lib.hid (K.out.next b1)
  have c0 := K1.out.c0
  have c1 := K1.out.c1
  clear b1 K
  go_wp2_with fail
  refine (of_none l s _ _ K1.out.m d HI.out HN.out).mono ?_
  rintro e w2 ⟨rfl, b2⟩
  have K2 := Lib.hid (K1.out.next b2)
  clear c0 c1 b2 K1
  have c0 := K2.out.c0
  have c1 := K2.out.c1
  go_wp2_with fail
  refine (right_any l s _ _ K2.out.m b HB.out).mono ?_
  rintro e w3 ⟨rfl, b3⟩
  have K3 := Lib.hid (K2.out.next b3)
  clear c0 c1 b3 K2
  have c0 := K3.out.c0
  have c1 := K3.out.c1
  cases b with
  | false =>
    obtain rfl := hx0 rfl
    clear hx0 hno
    go_wp2_with fail
    refine (devs_any l s _ _ K3.out.m 0 HX.out).mono ?_
    rintro e w4 ⟨rfl, b4⟩
    go_wp2
    go_ret
    exact ⟨rfl, next K3.out.below b4⟩
  | true =>
    clear hx0
    by_cases h0 : d < 0
    · clear hno
      go_wp2
      go_ret
      exact ⟨rfl, K3.out.below⟩
    · have hxd : x ≤ d := by omega
      clear hno
      go_wp2_with fail
      refine (devs_any l s _ _ K3.out.m x HX.out).mono ?_
      rintro e w4 ⟨rfl, b4⟩
      go_wp2
      go_ret
      exact ⟨rfl, next K3.out.below b4⟩

set_option maxHeartbeats 1000000 in
theorem ownsYes (v : Value) (l : List (Int × Int)) (s d : Int) (w : World) (h : Meas w v l s) (hr : RightM l s) (d0 : 0 ≤ d) (x : Int) (hx : devsL l s = x) (d1 : d < x) :
    Calls Try.prog 3 #[v, .int .i64 d] w fun e w' => e = .returned (.bool true) ∧ Below w.heap.size w w' := by
  have hx32 : x ≤ 32 := by
    rw [← hx, devsL, rightM_iff.2 hr, if_pos rfl]
    have := (hr.bounds l.length (Nat.le_refl _)).2
    have := hr.few
    omega
  have HX := Lib.hid hx
  have HR := Lib.hid hr
  have HD : Hid (d < devsL l s) := Lib.hid (by rw [hx]; exact d1)
  obtain ⟨a, n, c, rfl, hg⟩ := id h
  have hn := hg.1.2.1
  have hn4 : n ≤ 4 := by rw [← hn]; exact hr.few
  have HNn := Lib.hid hn
  have K := Lib.hid (Held.start h)
  clear h hg hx hr hn
  go_enter Try.func3, Try.ntmps3
  go_wp2_with fail
  refine (awake_any _).mono ?_
  rintro e w1 ⟨rfl, b1⟩
  have K1 := Lib.hid (K.out.next b1)
  have c0 := K1.out.c0
  have c1 := K1.out.c1
  clear b1 K
  go_wp2_with fail
  refine (of_some l s _ _ K1.out.m d d0 HD.out).mono ?_
  rintro e w2 ⟨k, j, rfl, ⟨hk, j0, hj, hkj⟩, b2⟩
  have K2 := Lib.hid (K1.out.next b2)
  clear c0 c1 b2 K1
  have c0 := K2.out.c0
  have c1 := K2.out.c1
  have hkn : k < n := by rw [← HNn.out]; exact hk
  have hbk := HR.out.bounds k (Nat.le_of_lt hk)
  generalize hy : aheadL l k = y at hkj hbk
  have hok := okG_wide (HR.out.all k hk)
  obtain ⟨kk, u, hl⟩ : ∃ kk u, l[k] = (kk, u) := ⟨_, _, rfl⟩
  rw [hl] at hj hok
  dsimp only at hj hok
  obtain ⟨u1, u8⟩ := hok
  obtain ⟨y0, y1⟩ := hbk
  have HY : Hid (firstL l s (k : Int) = y) := Lib.hid (by
    rw [firstL, hasL_iff.2 ⟨HR.out, k, rfl, hk⟩, if_pos rfl]; exact hy)
  have HL : Hid (∃ hk : k < l.length, l[k] = (kk, u)) := Lib.hid ⟨hk, hl⟩
  have hdy : d = y + j := hkj.symm
  clear hkj hy hl hk
  subst hdy
  go_wp2_with fail
  refine (right_any l s _ _ K2.out.m true (rightM_iff.2 HR.out)).mono ?_
  rintro e w3 ⟨rfl, b3⟩
  have K3 := Lib.hid (K2.out.next b3)
  clear c0 c1 b3 K2
  have c0 := K3.out.c0
  have c1 := K3.out.c1
  go_wp2_with fail
  refine (devs_any l s _ _ K3.out.m x HX.out).mono ?_
  rintro e w4 ⟨rfl, b4⟩
  have K4 := Lib.hid (K3.out.next b4)
  clear c0 c1 b4 K3
  have c0 := K4.out.c0
  have c1 := K4.out.c1
  go_wp2_with fail
  refine (first_any l s _ _ K4.out.m (k : Int) (by omega) y HY.out).mono ?_
  rintro e w5 ⟨rfl, b5⟩
  have K5 := Lib.hid (K4.out.next b5)
  clear c0 c1 b5 K4
  have c0 := K5.out.c0
  have c1 := K5.out.c1
  obtain ⟨g, o, rfl, hlt, e0, e1⟩ := K5.out.at_ HL.out.1 HL.out.2
  dsimp only at e0 e1
  go_wp2
  go_ret
  exact ⟨rfl, K5.out.below⟩

theorem walk_GeomOwns (v0 : Value) (l0 : List (Int × Int)) (s0 a1 : Int) (w : World) (w0 : Meas w v0 l0 s0) (w1 : (Lit.int .i64 a1).wf = true) :
    Calls Try.prog 3 #[v0, .int .i64 a1] w fun e w' => e = .returned (.bool true) ∧ Below w.heap.size w w' := by
  obtain ⟨i0, i1⟩ := bounds_i64 w1
  by_cases h : a1 < 0 ∨ devsL l0 s0 ≤ a1
  · exact ownsNo v0 l0 s0 a1 w w0 i0 i1 _ rfl _ rfl h
  · cases hr : rightL l0 s0 with
    | false => exact absurd h (by unfold devsL; rw [hr]; simp)
    | true => exact ownsYes v0 l0 s0 a1 w w0 (rightM_iff.1 hr) (by omega) _ rfl (by omega)
end Go.Proofs.Ytpbhbpopebjgiaa
