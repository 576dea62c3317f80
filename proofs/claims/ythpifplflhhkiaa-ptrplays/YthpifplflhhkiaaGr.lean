/-
  The document's answers: Right, Takes, Bytes (polderref05).
-/
import Derived.Test.YthpifplflhhkiaaGh
import Derived.Test.YthpifplflhhkiaaCx
import Derived.Handy
namespace Go.Proofs.Ythpifplflhhkiaa
set_option maxRecDepth 100000
open Go.RowKit

theorem Held.at2 {w0 w : World} {b : Nat} {g o : Nat} {n c : Nat} {s : Int} {l : List (Int × Int)} (h : Held w0 w b (some ⟨g, o, none⟩) n c s l) {k : Nat} (hk : k < l.length) {x : Int × Int} (hx : l[k] = x) :
    w.cell? ⟨g, o + k * 2, none⟩ = some (.int .i64 x.1) ∧ w.cell? ⟨g, o + k * 2 + 1, none⟩ = some (.int .i64 x.2) := by
  obtain ⟨g', o', ha, _, h1, h2⟩ := h.at_ hk hx
  cases ha
  exact ⟨h1, h2⟩
theorem Held.bounds {w0 w : World} {b : Nat} {a : Option Addr} {n c : Nat} {s : Int} {l : List (Int × Int)} (h : Held w0 w b a n c s l) {k : Nat} (hk : k < l.length) {x : Int × Int} (hx : l[k] = x) :
    -9223372036854775808 ≤ x.1 ∧ x.1 ≤ 9223372036854775807 ∧ -9223372036854775808 ≤ x.2 ∧ x.2 ≤ 9223372036854775807 := by
  obtain ⟨a', n', c', hv, hg, _⟩ := h.m
  cases hv
  obtain ⟨g, o, ha, hG⟩ := hg.2.2 k hk
  subst hx
  exact ⟨hG.k0, hG.k1, hG.w0, hG.w1⟩

set_option maxHeartbeats 2000000 in
theorem refRight_any (l : List (Int × Int)) (s : Int) (v : Value) (w : World) (h : Meas w v l s) (b : Bool) (hb : rightL l s = b) :
    Calls Try.prog 44 #[v] w fun e w' => e = .returned (.bool b) ∧ Below w.heap.size w w' := by
  obtain ⟨a, n, c, rfl, hg, s0, s1⟩ := id h
  have hm := hg.1
  have hn := hg.2.1
  unfold maxLen at hm
  have K := Lib.hid (Held.start h)
  clear hg h
  by_cases h0 : n < 1
  · obtain rfl : false = b := by rw [← hb]; simp [rightL, hn]; omega
    obtain rfl : n = 0 := by omega
    go_enter Try.func44, Try.ntmps44
    go_wp2
    go_ret
    exact ⟨rfl, boxed _ _⟩
  have h0' : decide ((n : Int) < 1) = false := by simp; omega
  by_cases h4 : 4 < n
  · obtain rfl : false = b := by rw [← hb, rightL, hn]; simp; omega
    go_enter Try.func44, Try.ntmps44
    go_wp2
    go_ret
    exact ⟨rfl, boxed _ _⟩
  by_cases h24 : s < 24
  · obtain rfl : false = b := by rw [← hb, rightL, hn]; simp; omega
    go_enter Try.func44, Try.ntmps44
    go_wp2
    go_ret
    exact ⟨rfl, boxed _ _⟩
  by_cases h40 : 4096 < s
  · obtain rfl : false = b := by rw [← hb, rightL, hn]; simp; omega
    go_enter Try.func44, Try.ntmps44
    go_wp2
    go_ret
    exact ⟨rfl, boxed _ _⟩
  have hall : Hid (l.all okG = b) := Lib.hid (by
    rw [← hb, rightL, hn]
    simp [show 0 < n by omega, show n ≤ 4 by omega, show 24 ≤ s by omega, show s ≤ 4096 by omega])
  have HN := Lib.hid hn
  have q1 : decide (4 < n) = false := by simp; omega
  have q2 : decide (s < 24) = false := by simp; omega
  have q3 : decide (4096 < s) = false := by simp; omega
  clear hb hn
  go_enter Try.func44, Try.ntmps44
  go_wp2_with fail
  go_loopw [3] (fun i wr => ∃ k : Nat, k ≤ n ∧ i = .int .i64 (k : Int) ∧ Hid (okTo l k) ∧ Hid (Held w wr w.heap.size a n c s l)) (fun i _ => n - (intOf i).toNat)
  case atStart => exact ⟨0, Nat.zero_le _, rfl, Lib.hid fun j _ hj => absurd hj (Nat.not_lt_zero _), K⟩
  case round =>
    obtain ⟨k, hk, rfl, H, K1⟩ := hrel
    have c0 := K1.out.c0
    clear K
    by_cases hlt : k < n
    · have hkl : k < l.length := by rw [HN.out]; exact hlt
      obtain ⟨kk, u, hl⟩ : ∃ kk u, l[k] = (kk, u) := ⟨_, _, rfl⟩
      obtain ⟨p0, p1, q0, q1⟩ := K1.out.bounds hkl hl
      obtain ⟨g, o, rfl, hlt2, e0, e1⟩ := K1.out.at_ hkl hl
      dsimp only at e0 e1 p0 p1 q0 q1
      have K2 := Lib.hid (K1.out.next (boxed wr (.cells #[.int .i64 kk, .int .i64 u] 69)))
      have hno : Hid (okG (kk, u) = false → b = false) := Lib.hid (fun e => by rw [← hall.out]; exact okTo_not hkl (by rw [hl]; exact e))
      have hyes : Hid (okG (kk, u) = true → okTo l (k + 1)) := Lib.hid (fun e j hj hjk => by
        by_cases ej : j = k
        · subst ej; rw [hl]; exact e
        · exact H.out j hj (by omega))
      clear hl hkl
      by_cases k0 : kk = 0
      · subst k0
        by_cases w1 : u < 1
        · obtain rfl : b = false := hno.out (by simp [okG]; omega)
          go_wp2
          go_ret
          exact ⟨rfl, K2.out.below⟩
        by_cases w8 : 8 < u
        · obtain rfl : b = false := hno.out (by simp [okG]; omega)
          go_wp2
          go_ret
          exact ⟨rfl, K2.out.below⟩
        have Y := Lib.hid (hyes.out (by simp [okG]; omega))
        go_wp2
        go_roundw
        case rel => exact ⟨k + 1, by omega, by go_num, Y, K2⟩
        case measure => simp [intOf]; omega
      have k0' : (kk != 0) = true := by simp [k0]
      by_cases k1 : kk = 1
      · subst k1
        by_cases w1 : u < 3
        · obtain rfl : b = false := hno.out (by simp [okG]; omega)
          go_wp2
          go_ret
          exact ⟨rfl, K2.out.below⟩
        by_cases w8 : 8 < u
        · obtain rfl : b = false := hno.out (by simp [okG]; omega)
          go_wp2
          go_ret
          exact ⟨rfl, K2.out.below⟩
        have Y := Lib.hid (hyes.out (by simp [okG]; omega))
        go_wp2
        go_roundw
        case rel => exact ⟨k + 1, by omega, by go_num, Y, K2⟩
        case measure => simp [intOf]; omega
      have k1' : (kk != 1) = true := by simp [k1]
      obtain rfl : b = false := hno.out (by simp [okG, k0, k1])
      go_wp2
      go_ret
      exact ⟨rfl, K2.out.below⟩
    · have hb : true = b := by
        rw [← hall.out, okTo_all (by
          obtain rfl : k = n := by omega
          rw [HN.out]; exact H.out)]
      subst hb
      go_wp2
      go_ret
      exact ⟨rfl, K1.out.below⟩

set_option maxHeartbeats 2000000 in
theorem refTakes_any (kk u z : Int) (w : World) (hok : okG (kk, u) = true) (z1 : 1 ≤ z) (z4 : z ≤ 4) (x : Int) (hx : takesG (kk, u) z = x) :
    Calls Try.prog 33 #[.agg #[.int .i64 kk, .int .i64 u], .int .i64 z] w fun e w' => e = .returned (.int .i64 x) ∧ Below w.heap.size w w' := by
  rcases okG_cases hok with ⟨rfl, u1, u8⟩ | ⟨rfl, u1, u8⟩
  · have HX : Hid (z = x) := Lib.hid (by rw [← hx]; rfl)
    clear hx hok
    go_enter Try.func33, Try.ntmps33
    go_wp2
    go_ret
    exact ⟨by rw [← HX.out]; rfl, boxed _ _⟩
  · have hzz : z = 1 ∨ z = 2 ∨ z = 3 ∨ z = 4 := by omega
    have huu : u = 3 ∨ u = 4 ∨ u = 5 ∨ u = 6 ∨ u = 7 ∨ u = 8 := by omega
    have HX := Lib.hid hx
    clear hx hok z1 z4 u1 u8
    rcases hzz with rfl | rfl | rfl | rfl <;> rcases huu with rfl | rfl | rfl | rfl | rfl | rfl <;>
      (go_enter Try.func33, Try.ntmps33; go_wp2; go_rounds 3; go_ret; exact ⟨by rw [← HX.out]; rfl, boxed _ _⟩)

end Go.Proofs.Ythpifplflhhkiaa
