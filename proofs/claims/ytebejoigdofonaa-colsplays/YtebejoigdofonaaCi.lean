/-
  slices.DeleteFunc of columns: the parities are left out.
-/
import Derived.Test.YtebejoigdofonaaCf
import Derived.Lib.SliceRun
namespace Go.Proofs.Ytebejoigdofonaa
open Go.RowKit

theorem isPar (w : World) (x : C) : Calls Try.prog 27 #[.agg #[.int .i64 x.dev, .int .i64 x.at_, .bool x.par, .int .i64 x.row]] w fun e w' => e = .returned (.bool x.par) ∧ Below w.heap.size w w' := by
  go_enter Try.func27, Try.ntmps27
  go_wp2
  go_ret
  exact ⟨rfl, boxed _ _⟩

set_option maxHeartbeats 1000000 in
theorem index_none (w : World) (L : List C) (a : Option Addr) (n c : Nat) (hV : ColsV w (.slice a n c) L) (hn : n ≤ 100000) (hp : ∀ j (h : j < L.length), L[j].par = false) :
    Calls Try.prog 36 #[.slice a n c, .func (.func 27) #[] #[]] w fun e w' => e = .returned (.int .i64 (-1)) ∧ Below w.heap.size w w' := by
  have HV := Lib.hid hV
  have HP := Lib.hid hp
  clear hV hp
  have HN : Hid (L.length = n) := Lib.hid (by obtain ⟨_, _, _, e, h, _⟩ := HV.out; cases e; exact h)
  go_enter Try.func36, Try.ntmps36
  go_wp2_with fail
  go_loopw [8] (fun i wr => ∃ k : Nat, k ≤ n ∧ i = .int .i64 (k : Int) ∧ Hid (Below w.heap.size w wr)) (fun i _ => n - (intOf i).toNat)
  case atStart => exact ⟨0, Nat.zero_le _, rfl, Lib.hid (Below.refl _ _)⟩
  case round =>
    obtain ⟨k, hk, rfl, HW⟩ := hrel
    by_cases hkn : k < n
    · have hkl : k < L.length := by rw [HN.out]; exact hkn
      obtain ⟨g, m, c', e, _, hlt, hC⟩ := HV.out.some (by omega)
      cases e
      obtain ⟨x, hx⟩ : ∃ x, L[k] = x := ⟨_, rfl⟩
      have hpx := HP.out k hkl
      have hCk := (hC k hkl).below hlt HW.out
      rw [hx] at hpx hCk
      obtain ⟨e0, e1, e2, e3⟩ := hCk
      rw [hpx] at e2
      have HX := Lib.hid hpx
      clear hpx hx hC hkl
      have hI := Lib.hid (isPar wr x)
      go_wp2_with fail
      refine (by have := hI.out; rw [HX.out] at this; exact this : Calls Try.prog 27 #[.agg #[.int .i64 x.dev, .int .i64 x.at_, .bool false, .int .i64 x.row]] wr fun e w' => e = .returned (.bool false) ∧ Below wr.heap.size wr w').mono ?_
      rintro e w1 ⟨rfl, b1⟩
      go_wp2
      go_roundw
      case rel => exact ⟨k + 1, by omega, by go_num, Lib.hid (next HW.out b1)⟩
      case measure => simp [intOf]; omega
    · go_wp2
      go_ret
      exact ⟨rfl, HW.out⟩

set_option maxHeartbeats 1000000 in
theorem index_zero (w : World) (L : List C) (a : Option Addr) (n c : Nat) (hV : ColsV w (.slice a n c) L) (hn : n ≤ 100000) (h0 : 0 < L.length) (hp : L[0].par = true) :
    Calls Try.prog 36 #[.slice a n c, .func (.func 27) #[] #[]] w fun e w' => e = .returned (.int .i64 0) ∧ Below w.heap.size w w' := by
  obtain ⟨g, m, c', e, hm, hlt, hC⟩ := hV.some h0
  cases e
  obtain ⟨x, hx⟩ : ∃ x, L[0] = x := ⟨_, rfl⟩
  have hCk := hC 0 h0
  rw [hx] at hp hCk
  obtain ⟨e0, e1, e2, e3⟩ := hCk
  rw [hp] at e2
  simp only [Nat.zero_mul, Nat.zero_add] at e0 e1 e2 e3
  have hn0 : 0 < n := by omega
  have HX := Lib.hid hp
  have hI := Lib.hid (isPar w x)
  clear hC hV hp hx hm
  go_enter Try.func36, Try.ntmps36
  go_wp2_with fail
  refine wp_loop_rounds 1 ?_
  rw [rounds_succ]
  go_wp2_with fail
  refine (by have := hI.out; rw [HX.out] at this; exact this : Calls Try.prog 27 #[.agg #[.int .i64 x.dev, .int .i64 x.at_, .bool true, .int .i64 x.row]] w fun e w' => e = .returned (.bool true) ∧ Below w.heap.size w w').mono ?_
  rintro e w1 ⟨rfl, b1⟩
  go_wp2
  go_ret
  exact ⟨rfl, b1⟩
end Go.Proofs.Ytebejoigdofonaa
