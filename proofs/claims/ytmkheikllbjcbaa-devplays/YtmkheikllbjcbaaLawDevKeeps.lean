/-
  The walk of polderlaw04.DevKeeps.
-/
import Derived.Test.YtmkheikllbjcbaaLawDevAlone
namespace Go.Proofs.Ytmkheikllbjcbaa
open Go.RowKit Go.Maps

theorem Ints.early {B : Nat} {w w' : World} {v : Value} {l : List Int} (h : Ints (fun k => B ≤ k) w v l) (hb : Below B w w') : Ints (fun k => B ≤ k) w' v l :=
  h.turn ⟨hb.os, hb.tape, hb.output, hb.size, fun k _ hn => hb.block k (by omega)⟩ fun _ h => .inl h
theorem write_since {S : Dv} (k : Int) (x : Sec) (j : Nat) (h : k ≠ j) : (S.write k x).since j = S.since j := by
  unfold Dv.write
  split
  · rename_i hr
    obtain ⟨_, q, rfl, _⟩ := reach_zero hr.1
    show (if j = (q : Int).toNat then _ else S.since j) = _
    rw [if_neg (by simp; omega)]
  · rfl
theorem crash_keys (S : Dv) (l : List Int) : (S.crash l).keys = [] := by simp [Dv.keys, Dv.crash, Dv.bare]
structure Kp (S : Dv) (n t : Nat) : Prop where
  calm : Calm S
  len : S.med.length = n
  cnt : S.cnt ≤ t
structure Kp2 (S : Dv) (n k : Nat) (x : Sec) (t : Nat) : Prop where
  kp : Kp S n t
  med : S.med.getD k [] = x
  since : S.since k = []
theorem Kp.write {S : Dv} {n t : Nat} (h : Kp S n t) (k : Int) (x : Sec) : Kp (S.write k x) n (t + 1) := by
  obtain ⟨k1, k2, _⟩ := write_keeps S k x
  exact ⟨write_calm h.calm _ _, by rw [k1]; exact h.len, by have := h.cnt; omega⟩
theorem Kp2.write {S : Dv} {n k : Nat} {y : Sec} {t : Nat} (h : Kp2 S n k y t) (j : Int) (x : Sec) (hj : j ≠ k) : Kp2 (S.write j x) n k y (t + 1) :=
  ⟨h.kp.write j x, by rw [(write_keeps S j x).1]; exact h.med, by rw [write_since j x k hj]; exact h.since⟩
def KeepRel (B b m n : Nat) (w : World) (u : Value) (wr : World) : Prop :=
  ∃ t S, t ≤ m ∧ u = .int .i64 ((t : Nat) : Int) ∧ DevL B wr b S ∧ Kp S n t ∧ Below B w wr
def KeepRel2 (B b m n k : Nat) (x : Sec) (w : World) (u : Value) (wr : World) : Prop :=
  ∃ t S, t ≤ m ∧ u = .int .i64 ((t : Nat) : Int) ∧ DevL B wr b S ∧ Kp2 S n k x t ∧ Below B w wr

set_option maxRecDepth 100000 in
set_option maxHeartbeats 4000000 in
theorem walk_DevKeeps (a0 : Int) (a1 : Option Addr) (len1 cap1 : Nat) (a2 : Option Addr) (len2 cap2 : Nat) (a3 : Option Addr) (len3 cap3 : Nat) (z3 : List Int) (a4 : Int) (w : World)
    (w0 : (Lit.int .u8 a0).wf = true) (hr1 : ∃ l, Acts w.heap.size w a1 len1 l) (hr2 : ∃ l, Acts w.heap.size w a2 len2 l) (hr3 : IsRow .i64 w a3 len3 cap3 z3) (w4 : (Lit.int .u8 a4).wf = true) :
    Calls Try.prog 3 #[.int .u8 a0, .slice a1 len1 cap1, .slice a2 len2 cap2, .slice a3 len3 cap3, .int .u8 a4] w fun e w' => e = .returned (.bool true) ∧ Below w.heap.size w w' := by
  obtain ⟨l1, hA1⟩ := hr1
  obtain ⟨l2, hA2⟩ := hr2
  obtain ⟨s0, s1⟩ := bounds_u8 w0
  obtain ⟨t0, t1⟩ := bounds_u8 w4
  have hm1 := hA1.1
  have hm2 := hA2.1
  have hm3 := hr3.len_le
  obtain ⟨hI, hIl⟩ := ints_row hr3
  unfold maxLen at hm1 hm2 hm3
  have HA1 := Lib.hid hA1
  have HA2 := Lib.hid hA2
  have HI := Lib.hid hI
  clear hA1 hA2 hI hIl hr3 w0 w4
  obtain ⟨q, hq⟩ : ∃ q : Nat, a0 % 20 = (q : Int) := ⟨(a0 % 20).toNat, by omega⟩
  obtain ⟨n, hn⟩ : ∃ n : Nat, (1 : Int) + (q : Int) = (n : Int) := ⟨1 + q, by omega⟩
  have hn1 : 1 ≤ n := by omega
  have hn20 : n ≤ 20 := by omega
  have hk0 := Int.emod_nonneg a4 (show (n : Int) ≠ 0 by omega)
  have hk1 := Int.emod_lt_of_pos a4 (show 0 < (n : Int) by omega)
  obtain ⟨k, hk⟩ : ∃ k : Nat, a4 % (n : Int) = (k : Int) := ⟨(a4 % (n : Int)).toNat, by omega⟩
  have hkn : k < n := by omega
  have hk' : a4.tmod (n : Int) = (k : Int) := by rw [Int.tmod_eq_emod_of_nonneg t0]; exact hk
  have hnz : ¬ (n : Int) = 0 := by omega
  have hnz' : ((n : Int) == 0) = false := by simpa using hnz
  clear hk0 hk1
  go_enter Try.func3, Try.ntmps3
  go_wp2_with fail
  (with_reducible refine (awake_any _).mono ?_)
  rintro e w1 ⟨rfl, b1⟩
  go_wp2_with fail
  (with_reducible refine (few_any w.heap.size a1 len1 cap1 l1 _ (HA1.out.below b1)).mono ?_)
  rintro e w2 ⟨x, rfl, hx, rfl⟩
  cases x with
  | false =>
    go_wp2_with fail
    (with_reducible refine (awake_any _).mono ?_)
    rintro e w2 ⟨rfl, b2⟩
    go_wp2
    go_ret
    exact ⟨rfl, early b1 b1.size b2⟩
  | true =>
  have h80 := hx rfl
  clear hx
  go_wp2_with fail
  (with_reducible refine (few_any w.heap.size a2 len2 cap2 l2 _ (HA2.out.below b1)).mono ?_)
  rintro e w2 ⟨x, rfl, hx, rfl⟩
  cases x with
  | false =>
    go_wp2_with fail
    (with_reducible refine (awake_any _).mono ?_)
    rintro e w2 ⟨rfl, b2⟩
    go_wp2
    go_ret
    exact ⟨rfl, early b1 b1.size b2⟩
  | true =>
  have h81 := hx rfl
  clear hx
  by_cases h82 : 80 < len3
  · have d1 : decide ((80 : Int) < (len3 : Int)) = true := by simp; omega
    go_wp2_with fail
    (with_reducible refine (awake_any _).mono ?_)
    rintro e w2 ⟨rfl, b2⟩
    go_wp2
    go_ret
    exact ⟨rfl, early b1 b1.size b2⟩
  have d1 : decide ((80 : Int) < (len3 : Int)) = false := by simp; omega
  go_wp2_with fail
  refine (newL n w.heap.size _ (by omega) (by omega) b1.size).mono ?_
  rintro e w2 ⟨b, rfl, h2, b2⟩
  have hrel0 : KeepRel w.heap.size b len1 n w (.int .i64 0) w2 := ⟨0, _, Nat.zero_le _, rfl, h2, ⟨new_calm n, by simp [newDv], Nat.le_refl _⟩, b1.trans b2⟩
  clear h2 b1 b2
  go_wp2_with fail
  go_loopw [15] (fun u wr => KeepRel w.heap.size b len1 n w u wr) (fun u _ => len1 - (intOf u).toNat)
  case atStart => exact hrel0
  case round =>
    obtain ⟨t, S, ht, rfl, hd, hS, hb⟩ := hrel
    clear hrel0
    by_cases hlt : t < len1
    · obtain ⟨x, g, o, _, rfl, hx⟩ := (HA1.out.below hb).act hlt
      have hg := hx.lt
      have c1 := hx.c1
      have c3 := hx.c3
      have hcn := hS.cnt
      have F := fun w => full_any x.fill w
      have W := fun w4 (b4 : Below wr.drew.heap.size wr.drew w4) => writeL w.heap.size b S x.at_ (fullS x.fill) w4 ((hd.below (Below.refl _ wr).drew).below b4) (Nat.le_trans hb.size b4.size) (fullS_len _) (by omega)
      have HS2 := Lib.hid (hS.write x.at_ (fullS x.fill))
      have bd : Below w.heap.size w wr.drew := hb.drew
      have q4 : (t : Int) < (len1 : Int) := by omega
      clear hx hd hS hcn
      generalize S.write x.at_ (fullS x.fill) = S2 at *
      generalize S.writeE x.at_ = ve at *
      generalize strOf (fullS x.fill) = st at *
      generalize (x.fill.toNat : Int) = fc at *
      generalize x.at_ = xa at *
      go_wp2_with fail
      go_region_held3 (fun w' => w'.cell? ⟨g, o + t * 5 + 1, none⟩ = some (.int .i64 xa) ∧ w'.cell? ⟨g, o + t * 5 + 3, none⟩ = some (.int .u8 fc)) (first | exact ⟨c1, c3⟩ | exact ⟨k1, k3⟩ | exact ⟨m1, m3⟩)
        (first
          | (go_at_call 14; refine (F _).mono ?_; rintro e w4 ⟨rfl, b4⟩; have b5 := early bd bd.size b4; have k1 := (b4.cell (p := ⟨g, o + t * 5 + 1, none⟩) (Nat.lt_of_lt_of_le hg bd.size)).trans c1; have k3 := (b4.cell (p := ⟨g, o + t * 5 + 3, none⟩) (Nat.lt_of_lt_of_le hg bd.size)).trans c3)
          | (go_at_call 13; refine (W w4 b4).mono ?_; rintro e w5 ⟨rfl, h5, b6⟩; have m1 := (b6.cell (p := ⟨g, o + t * 5 + 1, none⟩) hg).trans k1; have m3 := (b6.cell (p := ⟨g, o + t * 5 + 3, none⟩) hg).trans k3))
      have b7 := b5.trans b6
      clear k1 k3 m1 m3 c1 c3 W F b4 b6 b5 bd q4
      go_wp2
      go_roundw
      case rel => exact ⟨t + 1, S2, by omega, by go_num, h5, HS2.out, b7⟩
      case measure => simp [intOf]; omega
    · obtain rfl : t = len1 := by omega
      have W := flushLw w.heap.size b S wr hd hb.size (by have := hS.cnt; omega)
      rw [hS.calm.flush.1, hS.calm.flush.2] at W
      have hS2 : Kp2 S.flush n k (S.flush.now k) 0 := ⟨⟨⟨hS.calm.lost, hS.calm.fused⟩, by simp [Dv.flush, hS.len], Nat.le_refl _⟩, rfl, rfl⟩
      clear hd hS
      generalize hy : S.flush.now k = y at *
      have HY := Lib.hid hy
      clear hy
      generalize S.flush = S2 at *
      have R := fun w4 (h4 : DevL w.heap.size w4 b S2) => readL w.heap.size b S2 (k : Int) w4 h4
      rw [hS2.kp.calm.read (by rw [hS2.kp.len]; exact hkn), HY.out] at R
      generalize hsy : strOf y = sy at *
      have HSY := Lib.hid hsy
      clear hsy ht hlt
      go_wp2_with fail
      (with_reducible refine W.mono ?_)
      rintro e w4 ⟨rfl, h4, b4⟩
      have b5 := hb.trans b4
      have R := R w4 h4
      clear W
      go_wp2_with fail
      (with_reducible refine R.mono ?_)
      rintro e w5 ⟨rfl, rfl⟩
      clear R
      have hrel1 : KeepRel2 w.heap.size b len2 n k y w (.int .i64 0) w4 := ⟨0, S2, Nat.zero_le _, rfl, h4, hS2, b5⟩
      clear h4 hS2 b4 b5 HY hb
      go_wp2_with fail
      go_loopw [19] (fun u wr => KeepRel2 w.heap.size b len2 n k y w u wr) (fun u _ => len2 - (intOf u).toNat)
      case atStart => exact hrel1
      case round =>
        obtain ⟨t2, S, ht2, rfl, hd, hS, hb⟩ := hrel
        clear hrel1
        by_cases hlt : t2 < len2
        · obtain ⟨x, g, o, _, rfl, hx⟩ := (HA2.out.below hb).act hlt
          have hg := hx.lt
          have c1 := hx.c1
          have c3 := hx.c3
          have hcn := hS.kp.cnt
          by_cases hak : x.at_ = (k : Int)
          · rw [hak] at c1
            clear hx
            have d2 : ((k : Int) != (k : Int)) = false := by simp
            go_wp2
            go_roundw
            case rel => exact ⟨t2 + 1, S, by omega, by go_num, hd, ⟨⟨hS.kp.calm, hS.kp.len, by omega⟩, hS.med, hS.since⟩, hb⟩
            case measure => simp [intOf]; omega
          have d2 : (x.at_ != (k : Int)) = true := by simpa using hak
          have d3 : (x.at_ == (k : Int)) = false := by simpa using hak
          have F := fun w => full_any x.fill w
          have W := fun w4 (b4 : Below wr.drew.heap.size wr.drew w4) => writeL w.heap.size b S x.at_ (fullS x.fill) w4 ((hd.below (Below.refl _ wr).drew).below b4) (Nat.le_trans hb.size b4.size) (fullS_len _) (by omega)
          have HS2 := Lib.hid (hS.write x.at_ (fullS x.fill) hak)
          have bd : Below w.heap.size w wr.drew := hb.drew
          have q4 : (t2 : Int) < (len2 : Int) := by omega
          clear hx hd hS hcn
          generalize S.write x.at_ (fullS x.fill) = S2 at *
          generalize S.writeE x.at_ = ve at *
          generalize strOf (fullS x.fill) = st at *
          generalize (x.fill.toNat : Int) = fc at *
          generalize x.at_ = xa at *
          go_wp2_with fail
          go_region_held3 (fun w' => w'.cell? ⟨g, o + t2 * 5 + 1, none⟩ = some (.int .i64 xa) ∧ w'.cell? ⟨g, o + t2 * 5 + 3, none⟩ = some (.int .u8 fc)) (first | exact ⟨c1, c3⟩ | exact ⟨k1, k3⟩ | exact ⟨m1, m3⟩)
            (first
              | (go_at_call 14; refine (F _).mono ?_; rintro e w4 ⟨rfl, b4⟩; have b5 := early bd bd.size b4; have k1 := (b4.cell (p := ⟨g, o + t2 * 5 + 1, none⟩) (Nat.lt_of_lt_of_le hg bd.size)).trans c1; have k3 := (b4.cell (p := ⟨g, o + t2 * 5 + 3, none⟩) (Nat.lt_of_lt_of_le hg bd.size)).trans c3)
              | (go_at_call 13; refine (W w4 b4).mono ?_; rintro e w5 ⟨rfl, h5, b6⟩; have m1 := (b6.cell (p := ⟨g, o + t2 * 5 + 1, none⟩) hg).trans k1; have m3 := (b6.cell (p := ⟨g, o + t2 * 5 + 3, none⟩) hg).trans k3))
          have b7 := b5.trans b6
          clear k1 k3 m1 m3 c1 c3 W F b4 b6 b5 bd q4
          go_wp2
          go_roundw
          case rel => exact ⟨t2 + 1, S2, by omega, by go_num, h5, HS2.out, b7⟩
          case measure => simp [intOf]; omega
        · obtain rfl : t2 = len2 := by omega
          have C := crashL w.heap.size b S (.slice a3 len3 cap3) (z3.take len3) wr hd hb.size (by have := hS.kp.cnt; omega) (HI.out.early hb)
          have e1 : S.doCrash (z3.take len3) = S.crash (z3.take len3) := by unfold Dv.doCrash; rw [hS.kp.calm.lost]; simp
          rw [e1] at C
          have hnow : (S.crash (z3.take len3)).now k = y := by
            have := crash_in hd.ok (z3.take len3) k
            rw [hS.med, hS.since] at this
            simpa using this
          have hl6 : (S.crash (z3.take len3)).med.length = n := by rw [crash_len]; exact hS.kp.len
          have e6 : Calm (S.crash (z3.take len3)) := crash_calm hS.kp.calm.lost _
          have hk6 : (S.crash (z3.take len3)).keys = [] := crash_keys _ _
          have hc6 : (S.crash (z3.take len3)).cnt = 0 := rfl
          generalize S.crash (z3.take len3) = S6 at *
          have R := fun w4 (h4 : DevL w.heap.size w4 b S6) => readL w.heap.size b S6 (k : Int) w4 h4
          rw [e6.read (by rw [hl6]; exact hkn), hnow, HSY.out] at R
          have K := fun w4 (h4 : DevL w.heap.size w4 b S6) => cachedL w.heap.size b S6 w4 h4 (by omega)
          rw [hk6] at K
          clear hd hS e1 hnow hl6 e6 hk6 hc6 ht2 hlt
          go_wp2_with fail
          (with_reducible refine C.mono ?_)
          rintro e w4 ⟨rfl, h4, b4⟩
          have b5 := hb.trans b4
          have R := R w4 h4
          clear C
          go_wp2_with fail
          (with_reducible refine R.mono ?_)
          rintro e w5 ⟨rfl, rfl⟩
          have K := K w4 h4
          clear R
          go_wp2_with fail
          refine K.mono ?_
          rintro e w6 ⟨v, rfl, hv, b8⟩
          clear K
          have hvn : ∃ a c, v = .slice a 0 c := by
            rcases hv.2 with ⟨rfl, _⟩ | ⟨g, c, cur, rfl, _⟩
            · exact ⟨_, _, rfl⟩
            · exact ⟨_, _, rfl⟩
          obtain ⟨va, vc, rfl⟩ := hvn
          clear hv
          have b9 := early b5 b5.size b8
          go_wp2
          go_ret
          exact ⟨rfl, b9⟩
end Go.Proofs.Ytmkheikllbjcbaa
