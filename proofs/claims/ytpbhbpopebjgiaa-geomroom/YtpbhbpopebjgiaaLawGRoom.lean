/-
  The walk of polderlaw05.GeomRoom.
-/
import Derived.Test.YtpbhbpopebjgiaaGh
import Derived.Test.YtpbhbpopebjgiaaLawGTakes
namespace Go.Proofs.Ytpbhbpopebjgiaa
open Go.RowKit

set_option maxHeartbeats 1000000 in
theorem roomNo (v : Value) (l : List (Int × Int)) (s a1 : Int) (w : World) (h : Meas w v l s) (i0 : -9223372036854775808 ≤ a1) (i1 : a1 ≤ 9223372036854775807)
    (b : Bool) (hb : rightL l s = b) (hno : b = false ∨ a1 < 0 ∨ l.length ≤ a1) :
    Calls Try.prog 7 #[v, .int .i64 a1] w fun e w' => e = .returned (.bool true) ∧ Below w.heap.size w w' := by
  have hno' : hasL l s a1 = false := by
    unfold hasL
    rw [hb]
    rcases hno with h | h | h
    · simp [h]
    · simp; intro _ _; omega
    · simp; intro _ _; omega
  have HB := Lib.hid hb
  have HN := Lib.hid hno'
  obtain ⟨a, n, c, rfl, hg⟩ := id h
  have hn := hg.1.2.1
  have hm := hg.1.1
  unfold maxLen at hm
  rw [hn] at hno
  have HI : Hid (-9223372036854775808 ≤ a1 ∧ a1 ≤ 9223372036854775807) := Lib.hid ⟨i0, i1⟩
  have K := Lib.hid (Held.start h)
  clear h hg hn hb hno'
  go_enter Try.func7, Try.ntmps7
  go_wp2_with fail
  refine (sectors_none l s _ _ K.out.m a1 HI.out HN.out).mono ?_
  rintro e w1 ⟨rfl, b1⟩
  have K1 := Lib.hid (K.out.next b1)
  have c0 := K1.out.c0
  have c1 := K1.out.c1
  clear b1 K
  go_wp2_with fail
  refine (awake_any _).mono ?_
  rintro e w2 ⟨rfl, b2⟩
  have K2 := Lib.hid (K1.out.next b2)
  clear c0 c1 b2 K1
  have c0 := K2.out.c0
  have c1 := K2.out.c1
  go_wp2_with fail
  refine (right_any l s _ _ K2.out.m b HB.out).mono ?_
  rintro e w3 ⟨rfl, b3⟩
  have K3 := Lib.hid (K2.out.next b3)
  clear c0 c1 b3 K2
  have c0 := K3.out.c0
  have c1 := K3.out.c1
  cases b with
  | false =>
    go_wp2_with fail
    refine (awake_any _).mono ?_
    rintro e w4 ⟨rfl, b4⟩
    go_wp2
    go_ret
    exact ⟨rfl, next K3.out.below b4⟩
  | true =>
    by_cases h1 : a1 < 0
    · clear hno
      go_wp2_with fail
      refine (awake_any _).mono ?_
      rintro e w4 ⟨rfl, b4⟩
      go_wp2
      go_ret
      exact ⟨rfl, next K3.out.below b4⟩
    have h2 : (n : Int) ≤ a1 := by
      rcases hno with h | h | h
      · cases h
      · omega
      · exact h
    clear hno
    go_wp2_with fail
    refine (awake_any _).mono ?_
    rintro e w4 ⟨rfl, b4⟩
    go_wp2
    go_ret
    exact ⟨rfl, next K3.out.below b4⟩

set_option maxHeartbeats 1000000 in
theorem roomYes (v : Value) (l : List (Int × Int)) (s : Int) (k : Nat) (w : World) (h : Meas w v l s) (hr : RightM l s) (hk : k < l.length) :
    Calls Try.prog 7 #[v, .int .i64 (k : Int)] w fun e w' => e = .returned (.bool true) ∧ Below w.heap.size w w' := by
  obtain ⟨a, n, c, rfl, hg⟩ := id h
  have hn := hg.1.2.1
  have hn4 : n ≤ 4 := by rw [← hn]; exact hr.few
  have hkn : k < n := by rw [← hn]; exact hk
  obtain ⟨kk, u, hl, hok⟩ : ∃ kk u, l[k] = (kk, u) ∧ okG (kk, u) = true := ⟨l[k].1, l[k].2, rfl, hr.all k hk⟩
  have s0 := hr.s0
  have s1 := hr.s1
  obtain ⟨u1, u8⟩ : 1 ≤ u ∧ u ≤ 8 := okG_wide hok
  have hm0 : s - 16 ≤ (s - 16) * u := by
    have : (s - 16) * 1 ≤ (s - 16) * u := Int.mul_le_mul_of_nonneg_left u1 (by omega)
    omega
  have hm1 : (s - 16) * u ≤ 32640 := by
    have : (s - 16) * u ≤ 4080 * 8 := Int.mul_le_mul (by omega) u8 (by omega) (by omega)
    omega
  generalize hx : gives (kk, u) s = x
  have hx2 : s - 16 ≤ x ∧ x ≤ (s - 16) * u := by
    rw [← hx]
    unfold gives
    dsimp only
    split
    · exact ⟨hm0, Int.le_refl _⟩
    · exact ⟨Int.le_refl _, hm0⟩
  obtain ⟨x0, x1⟩ := hx2
  have HX : Hid (gives l[k] s = x) := Lib.hid (by rw [hl]; exact hx)
  have HR := Lib.hid hr
  have K := Lib.hid (Held.start h)
  have HL : Hid (∃ hk : k < l.length, l[k] = (kk, u)) := Lib.hid ⟨hk, hl⟩
  have T : Hid (∀ z : Int, 1 ≤ z → z ≤ 4 → ∀ w', Meas w' (.agg #[.slice a n c, .int .i64 s]) l s → ∃ y : Int, (0 ≤ y ∧ y ≤ 2 * z + 1) ∧ Calls Try.prog 14 #[.agg #[.slice a n c, .int .i64 s], .int .i64 (k : Int), .int .i64 z] w' fun e w'' => e = .returned (.int .i64 y) ∧ Below w'.heap.size w' w'') := Lib.hid (by
    intro z z1 z4 w' hw'
    have hf := takesG_facts kk u z hok z1 z4
    exact ⟨takesG l[k] z, ⟨by rw [hl]; exact hf.1, by rw [hl]; exact hf.2.2.1⟩, takes_some l s _ _ hw' hr k hk z z1 z4 _ rfl⟩)
  have M := Lib.hid (show (0 : Int) ≤ (s - 16) * u by omega)
  clear h hg hn hr hx hl hok
  go_enter Try.func7, Try.ntmps7
  go_wp2_with fail
  refine (sectors_some l s _ _ K.out.m HR.out k hk x HX.out).mono ?_
  rintro e w1 ⟨rfl, b1⟩
  have K1 := Lib.hid (K.out.next b1)
  have c0 := K1.out.c0
  have c1 := K1.out.c1
  clear b1 K HX
  go_wp2_with fail
  refine (awake_any _).mono ?_
  rintro e w2 ⟨rfl, b2⟩
  have K2 := Lib.hid (K1.out.next b2)
  clear c0 c1 b2 K1
  have c0 := K2.out.c0
  have c1 := K2.out.c1
  go_wp2_with fail
  refine (right_any l s _ _ K2.out.m true (rightM_iff.2 HR.out)).mono ?_
  rintro e w3 ⟨rfl, b3⟩
  have K3 := Lib.hid (K2.out.next b3)
  clear c0 c1 b3 K2
  have c0 := K3.out.c0
  have c1 := K3.out.c1
  obtain ⟨g, o, rfl, hlt, e0, e1⟩ := K3.out.at_ HL.out.1 HL.out.2
  dsimp only at e0 e1
  have hm0' := M.out
  have f0 := (K3.out.next (boxed _ (.cells #[.int .i64 kk, .int .i64 u] 32))).c0
  have f1 := (K3.out.next (boxed _ (.cells #[.int .i64 kk, .int .i64 u] 32))).c1
  have q1 : decide ((k : Int) < 0) = false := by simp
  have q2 : decide (n ≤ k) = false := by simp; omega
  have q3 : decide ((s - 16) * u < x) = false := by simp; omega
  have q4 : decide (x < s - 16) = false := by simp; omega
  go_wp2_with fail
  go_loopw [7] (fun i wr => ∃ z : Nat, 1 ≤ z ∧ z ≤ 5 ∧ i = .int .i64 (z : Int) ∧ Hid (Held w wr w.heap.size (some ⟨g, o, none⟩) n c s l)) (fun i _ => 5 - (intOf i).toNat)
  case atStart => exact ⟨1, by omega, by omega, rfl, Lib.hid (K3.out.next (boxed _ _))⟩
  case round =>
    obtain ⟨z, z1, z5, rfl, K4⟩ := hrel
    clear c0 c1 e0 e1 f0 f1
    have c0 := K4.out.c0
    have c1 := K4.out.c1
    by_cases hz : z ≤ 4
    · obtain ⟨y, ⟨y0, y1⟩, C⟩ := T.out (z : Int) (by omega) (by omega) wr K4.out.m
      have HC := Lib.hid C
      clear C
      go_wp2_with fail
      refine HC.out.mono ?_
      rintro e w5 ⟨rfl, b5⟩
      go_wp2
      go_roundw
      case rel => exact ⟨z + 1, by omega, by omega, by go_num, Lib.hid (K4.out.next b5)⟩
      case measure => simp [intOf]; omega
    · go_wp2
      go_ret
      exact ⟨rfl, K4.out.below⟩

theorem walk_GeomRoom (v0 : Value) (l0 : List (Int × Int)) (s0 a1 : Int) (w : World) (w0 : Meas w v0 l0 s0) (w1 : (Lit.int .i64 a1).wf = true) :
    Calls Try.prog 7 #[v0, .int .i64 a1] w fun e w' => e = .returned (.bool true) ∧ Below w.heap.size w w' := by
  obtain ⟨i0, i1⟩ := bounds_i64 w1
  cases hr : rightL l0 s0 with
  | false => exact roomNo v0 l0 s0 a1 w w0 i0 i1 false hr (.inl rfl)
  | true =>
    by_cases h : a1 < 0 ∨ (l0.length : Int) ≤ a1
    · exact roomNo v0 l0 s0 a1 w w0 i0 i1 true hr (.inr h)
    · obtain ⟨k, rfl⟩ : ∃ k : Nat, a1 = k := ⟨a1.toNat, by omega⟩
      exact roomYes v0 l0 s0 k w w0 (rightM_iff.1 hr) (by omega)
end Go.Proofs.Ytpbhbpopebjgiaa
