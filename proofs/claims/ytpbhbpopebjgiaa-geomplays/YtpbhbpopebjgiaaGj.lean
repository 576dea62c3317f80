/-
  The document's answers: Right, Takes, Bytes (polderref05).
-/
import Derived.Test.YtpbhbpopebjgiaaGi
namespace Go.Proofs.Ytpbhbpopebjgiaa
open Go.RowKit M

theorem Held.at2 {w0 w : World} {b : Nat} {g o : Nat} {n c : Nat} {s : Int} {l : List (Int × Int)} (h : Held w0 w b (some ⟨g, o, none⟩) n c s l) {k : Nat} (hk : k < l.length) {x : Int × Int} (hx : l[k] = x) :
    w.cell? ⟨g, o + k * 2, none⟩ = some (.int .i64 x.1) ∧ w.cell? ⟨g, o + k * 2 + 1, none⟩ = some (.int .i64 x.2) := by
  obtain ⟨g', o', ha, _, h1, h2⟩ := h.at_ hk hx
  cases ha
  exact ⟨h1, h2⟩
theorem Held.bounds {w0 w : World} {b : Nat} {a : Option Addr} {n c : Nat} {s : Int} {l : List (Int × Int)} (h : Held w0 w b a n c s l) {k : Nat} (hk : k < l.length) {x : Int × Int} (hx : l[k] = x) :
    -9223372036854775808 ≤ x.1 ∧ x.1 ≤ 9223372036854775807 ∧ -9223372036854775808 ≤ x.2 ∧ x.2 ≤ 9223372036854775807 := by
  obtain ⟨a', n', c', hv, hg, _⟩ := h.m
  cases hv
  obtain ⟨g, o, ha, hG⟩ := hg.2.2 k hk
  subst hx
  exact ⟨hG.k0, hG.k1, hG.w0, hG.w1⟩

set_option maxHeartbeats 2000000 in
theorem refRight_any (l : List (Int × Int)) (s : Int) (v : Value) (w : World) (h : Meas w v l s) (b : Bool) (hb : rightL l s = b) :
    Calls Try.prog 15 #[v] w fun e w' => e = .returned (.bool b) ∧ Below w.heap.size w w' := by
  obtain ⟨a, n, c, rfl, hg, s0, s1⟩ := id h
  have hm := hg.1
  have hn := hg.2.1
  unfold maxLen at hm
  have K := Lib.hid (Held.start h)
  clear hg h
  by_cases h0 : n < 1
  · obtain rfl : false = b := by rw [← hb]; simp [rightL, hn]; omega
    obtain rfl : n = 0 := by omega
    go_enter Try.func15, Try.ntmps15
    go_wp2
    go_ret
    exact ⟨rfl, boxed _ _⟩
  have h0' : decide ((n : Int) < 1) = false := by simp; omega
  by_cases h4 : 4 < n
  · obtain rfl : false = b := by rw [← hb, rightL, hn]; simp; omega
    go_enter Try.func15, Try.ntmps15
    go_wp2
    go_ret
    exact ⟨rfl, boxed _ _⟩
  by_cases h24 : s < 24
  · obtain rfl : false = b := by rw [← hb, rightL, hn]; simp; omega
    go_enter Try.func15, Try.ntmps15
    go_wp2
    go_ret
    exact ⟨rfl, boxed _ _⟩
  by_cases h40 : 4096 < s
  · obtain rfl : false = b := by rw [← hb, rightL, hn]; simp; omega
    go_enter Try.func15, Try.ntmps15
    go_wp2
    go_ret
    exact ⟨rfl, boxed _ _⟩
  have hall : Hid (l.all okG = b) := Lib.hid (by
    rw [← hb, rightL, hn]
    simp [show 0 < n by omega, show n ≤ 4 by omega, show 24 ≤ s by omega, show s ≤ 4096 by omega])
  have HN := Lib.hid hn
  have q1 : decide (4 < n) = false := by simp; omega
  have q2 : decide (s < 24) = false := by simp; omega
  have q3 : decide (4096 < s) = false := by simp; omega
  clear hb hn
  go_enter Try.func15, Try.ntmps15
  go_wp2_with fail
  go_loopw [3] (fun i wr => ∃ k : Nat, k ≤ n ∧ i = .int .i64 (k : Int) ∧ Hid (okTo l k) ∧ Hid (Held w wr w.heap.size a n c s l)) (fun i _ => n - (intOf i).toNat)
  case atStart => exact ⟨0, Nat.zero_le _, rfl, Lib.hid fun j _ hj => absurd hj (Nat.not_lt_zero _), K⟩
  case round =>
    obtain ⟨k, hk, rfl, H, K1⟩ := hrel
    have c0 := K1.out.c0
    clear K
    by_cases hlt : k < n
    · have hkl : k < l.length := by rw [HN.out]; exact hlt
      obtain ⟨kk, u, hl⟩ : ∃ kk u, l[k] = (kk, u) := ⟨_, _, rfl⟩
      obtain ⟨p0, p1, q0, q1⟩ := K1.out.bounds hkl hl
      obtain ⟨g, o, rfl, hlt2, e0, e1⟩ := K1.out.at_ hkl hl
      dsimp only at e0 e1 p0 p1 q0 q1
      have K2 := Lib.hid (K1.out.next (boxed wr (.cells #[.int .i64 kk, .int .i64 u] 32)))
      have hno : Hid (okG (kk, u) = false → b = false) := Lib.hid (fun e => by rw [← hall.out]; exact okTo_not hkl (by rw [hl]; exact e))
      have hyes : Hid (okG (kk, u) = true → okTo l (k + 1)) := Lib.hid (fun e j hj hjk => by
        by_cases ej : j = k
        · subst ej; rw [hl]; exact e
        · exact H.out j hj (by omega))
      clear hl hkl
      by_cases k0 : kk = 0
      · subst k0
        by_cases w1 : u < 1
        · obtain rfl : b = false := hno.out (by simp [okG]; omega)
          go_wp2
          go_ret
          exact ⟨rfl, K2.out.below⟩
        by_cases w8 : 8 < u
        · obtain rfl : b = false := hno.out (by simp [okG]; omega)
          go_wp2
          go_ret
          exact ⟨rfl, K2.out.below⟩
        have Y := Lib.hid (hyes.out (by simp [okG]; omega))
        go_wp2
        go_roundw
        case rel => exact ⟨k + 1, by omega, by go_num, Y, K2⟩
        case measure => simp [intOf]; omega
      have k0' : (kk != 0) = true := by simp [k0]
      by_cases k1 : kk = 1
      · subst k1
        by_cases w1 : u < 3
        · obtain rfl : b = false := hno.out (by simp [okG]; omega)
          go_wp2
          go_ret
          exact ⟨rfl, K2.out.below⟩
        by_cases w8 : 8 < u
        · obtain rfl : b = false := hno.out (by simp [okG]; omega)
          go_wp2
          go_ret
          exact ⟨rfl, K2.out.below⟩
        have Y := Lib.hid (hyes.out (by simp [okG]; omega))
        go_wp2
        go_roundw
        case rel => exact ⟨k + 1, by omega, by go_num, Y, K2⟩
        case measure => simp [intOf]; omega
      have k1' : (kk != 1) = true := by simp [k1]
      obtain rfl : b = false := hno.out (by simp [okG, k0, k1])
      go_wp2
      go_ret
      exact ⟨rfl, K2.out.below⟩
    · have hb : true = b := by
        rw [← hall.out, okTo_all (by
          obtain rfl : k = n := by omega
          rw [HN.out]; exact H.out)]
      subst hb
      go_wp2
      go_ret
      exact ⟨rfl, K1.out.below⟩

set_option maxHeartbeats 2000000 in
theorem refTakes_any (kk u z : Int) (w : World) (hok : okG (kk, u) = true) (z1 : 1 ≤ z) (z4 : z ≤ 4) (x : Int) (hx : takesG (kk, u) z = x) :
    Calls Try.prog 20 #[.agg #[.int .i64 kk, .int .i64 u], .int .i64 z] w fun e w' => e = .returned (.int .i64 x) ∧ Below w.heap.size w w' := by
  rcases okG_cases hok with ⟨rfl, u1, u8⟩ | ⟨rfl, u1, u8⟩
  · have HX : Hid (z = x) := Lib.hid (by rw [← hx]; rfl)
    clear hx hok
    go_enter Try.func20, Try.ntmps20
    go_wp2
    go_ret
    exact ⟨by rw [← HX.out]; rfl, boxed _ _⟩
  · have hzz : z = 1 ∨ z = 2 ∨ z = 3 ∨ z = 4 := by omega
    have huu : u = 3 ∨ u = 4 ∨ u = 5 ∨ u = 6 ∨ u = 7 ∨ u = 8 := by omega
    have HX := Lib.hid hx
    clear hx hok z1 z4 u1 u8
    rcases hzz with rfl | rfl | rfl | rfl <;> rcases huu with rfl | rfl | rfl | rfl | rfl | rfl <;>
      (go_enter Try.func20, Try.ntmps20; go_wp2; go_rounds 3; go_ret; exact ⟨by rw [← HX.out]; rfl, boxed _ _⟩)

set_option maxHeartbeats 1000000 in
theorem refBytes_any (l : List (Int × Int)) (s : Int) (v : Value) (w : World) (h : Meas w v l s) (hr : RightM l s) :
    Calls Try.prog 19 #[v] w fun e w' => e = .returned (.string (bytesY l s l.length)) ∧ Below w.heap.size w w' := by
  obtain ⟨a, n, c, rfl, hg⟩ := id h
  have hn := hg.1.2.1
  have hn4 : n ≤ 4 := by rw [← hn]; exact hr.few
  have s0 := hr.s0
  have s1 := hr.s1
  obtain ⟨sN, rfl⟩ := Int.eq_ofNat_of_zero_le (show 0 ≤ s by omega)
  have K1 := Lib.hid (Held.start h)
  have HR := Lib.hid hr
  have HN := Lib.hid hn
  have HY0 : Hid (u4 n ++ u4 sN = bytesY l (sN : Int) 0) := Lib.hid (by rw [bytesY, hn]; rfl)
  clear h hg hr hn
  have hu1 := u4_size n
  have hu2 := u4_size sN
  have HC : Hid (∀ (x : Nat) (z : KH w w.heap.size a n c (sN : Int) l), x < 4294967296 → Calls Try.prog 26 #[.int .i64 (x : Int)] z.v fun e w' => e = .returned (.string (u4 x)) ∧ ∃ y : KH w w.heap.size a n c (sN : Int) l, w' = y.v) :=
    Lib.hid (fun x z hx => (refU32_u4 x z.v hx).mono fun e w' ⟨he, hb⟩ => ⟨he, ⟨w', z.h.next hb⟩, rfl⟩)
  have k0 := fun z : KH w w.heap.size a n c (sN : Int) l => z.h.c0
  have k1 := fun z : KH w w.heap.size a n c (sN : Int) l => z.h.c1
  go_enter Try.func19, Try.ntmps19
  go_wp2_with fail
  generalize w.alloc (.cells #[.slice a n c, .int .i64 (sN : Int)] 24) = w1 at K1
  haveI hne : Nonempty (KH w w.heap.size a n c (sN : Int) l) := ⟨⟨w1, K1.out⟩⟩
  refine wp_region_family (KH.v (w0 := w) (b := w.heap.size) (a := a) (n := n) (c := c) (s := (sN : Int)) (l := l)) (by kernel_rfl) (by kernel_rfl) ⟨⟨_, K1.out.drew⟩, rfl⟩ ?_
  repeat (go_big_quiet_step (first
    | (go_at_call_of 26 (Value.int IntKind.i64 (n : Int)); exact HC.out _ _ (by omega))
    | (go_at_call_of 26 (Value.int IntKind.i64 (sN : Int)); exact HC.out _ _ (by omega))))
  refine wpQuiet_nil ?_
  rintro w7 ⟨⟨w2, K2⟩, rfl⟩
  have K2 := Lib.hid K2
  clear hne k0 k1 K1
  generalize hy0 : u4 n ++ u4 sN = y0
  have HY : Hid (y0 = bytesY l (sN : Int) 0) := Lib.hid (by rw [← hy0]; exact HY0.out)
  clear hu1 hu2 hy0 HY0
  go_wp2_with fail
  go_loopw [3, 4] (fun t i wr => ∃ (k : Nat) (y : ByteArray), k ≤ n ∧ i = .int .i64 (k : Int) ∧ t = .string y ∧ y.size ≤ 8 + 8 * k ∧ Hid (y = bytesY l (sN : Int) k) ∧ Hid (Held w wr w.heap.size a n c (sN : Int) l)) (fun _ i _ => n - (intOf i).toNat)
  case atStart => exact ⟨0, y0, Nat.zero_le _, rfl, rfl, by rw [HY.out, bytesY_size]; omega, HY, K2⟩
  case round =>
    obtain ⟨k, y, hk, rfl, rfl, hys, HY, K3⟩ := hrel
    have c0 := K3.out.c0
    by_cases hlt : k < n
    · have hkl : k < l.length := by rw [HN.out]; exact hlt
      obtain ⟨kk, u, hl, hok⟩ : ∃ kk u, l[k] = (kk, u) ∧ okG (kk, u) = true := ⟨l[k].1, l[k].2, rfl, HR.out.all k hkl⟩
      have hkk : 0 ≤ kk ∧ kk ≤ 1 ∧ 0 ≤ u ∧ u ≤ 8 := by rcases okG_cases hok with ⟨rfl, _, _⟩ | ⟨rfl, _, _⟩ <;> omega
      obtain ⟨kk0, kk1, u0, u8⟩ := hkk
      obtain ⟨p, rfl⟩ := Int.eq_ofNat_of_zero_le kk0
      obtain ⟨q, rfl⟩ := Int.eq_ofNat_of_zero_le u0
      obtain ⟨g, o, rfl, hlt2, e0, e1⟩ := K3.out.at_ hkl hl
      clear e0 e1
      have e0 := fun z : KH w w.heap.size (some ⟨g, o, none⟩) n c (sN : Int) l => (z.h.at2 hkl hl).1
      have e1 := fun z : KH w w.heap.size (some ⟨g, o, none⟩) n c (sN : Int) l => (z.h.at2 hkl hl).2
      have k0 := fun z : KH w w.heap.size (some ⟨g, o, none⟩) n c (sN : Int) l => z.h.c0
      dsimp only at e0 e1
      have HS := Lib.hid (bytesY_succ (s := (sN : Int)) hkl hl)
      have hu1 := u4_size p
      have hu2 := u4_size q
      clear hok hl hkl
      go_wp2_with fail
      haveI hne : Nonempty (KH w w.heap.size (some ⟨g, o, none⟩) n c (sN : Int) l) := ⟨⟨wr, K3.out⟩⟩
      refine wp_region_family (KH.v (w0 := w) (b := w.heap.size) (a := some ⟨g, o, none⟩) (n := n) (c := c) (s := (sN : Int)) (l := l)) (by kernel_rfl) (by kernel_rfl) ⟨⟨_, K3.out.drew⟩, rfl⟩ ?_
      repeat (go_big_quiet_step (first
        | (go_at_call_of 26 (Value.int IntKind.i64 (p : Int)); exact HC.out _ _ (by omega))
        | (go_at_call_of 26 (Value.int IntKind.i64 (q : Int)); exact HC.out _ _ (by omega))))
      refine wpQuiet_nil ?_
      rintro w8 ⟨⟨w4, K4⟩, rfl⟩
      have K5 := Lib.hid K4
      clear hne k0 e0 e1 K4
      go_wp2
      go_roundw
      case rel =>
        refine ⟨k + 1, y ++ u4 p ++ u4 q, by omega, by go_num, rfl, ?_, Lib.hid (by rw [HS.out, ← HY.out, ByteArray.append_assoc]), K5⟩
        simp [ByteArray.size_append, hu1, hu2]; omega
      case measure => simp [intOf]; omega
    · obtain rfl : k = n := by omega
      go_wp2
      go_ret
      exact ⟨by rw [HN.out, ← HY.out]; rfl, K3.out.below⟩
end Go.Proofs.Ytpbhbpopebjgiaa
