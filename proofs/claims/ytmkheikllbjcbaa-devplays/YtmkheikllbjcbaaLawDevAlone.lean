/-
  The walk of polderlaw04.DevAlone.
-/
import Derived.Test.YtmkheikllbjcbaaLawDevFresh
namespace Go.Proofs.Ytmkheikllbjcbaa
open Go.RowKit Go.Maps

theorem write_calm {S : Dv} (h : Calm S) (k : Int) (x : Sec) : Calm (S.write k x) := by
  unfold Dv.write
  split
  · exact ⟨h.lost, h.fused⟩
  · exact h
theorem write_now {S : Dv} (k : Int) (x : Sec) (j : Nat) (h : k ≠ j) : (S.write k x).now j = S.now j := by
  unfold Dv.write
  split
  · rename_i hr
    obtain ⟨_, q, rfl, _⟩ := reach_zero hr.1
    rw [now_put_other _ _ _ _ (by simp; omega)]
    rfl
  · rfl
theorem turn_keeps {S : Dv} (k : Nat) (x : Sec) : (S.turn k x).lost = S.lost ∧ (S.turn k x).fused = S.fused ∧ (S.turn k x).left = S.left ∧ (S.turn k x).cnt = S.cnt ∧ (S.turn k x).med.length = S.med.length := by
  unfold Dv.turn
  split
  · exact ⟨rfl, rfl, rfl, rfl, by simp⟩
  · exact ⟨rfl, rfl, rfl, rfl, rfl⟩
theorem turn_now {S : Dv} (k : Nat) (x : Sec) (j : Nat) (h : j ≠ k) : (S.turn k x).now j = S.now j := by
  unfold Dv.turn Dv.now
  split
  · simp only [List.getD_eq_getElem?_getD]
    rw [List.getElem?_set_ne (by omega)]
  · simp [h]
theorem spoil_keeps {S : Dv} (k p : Int) (c : UInt8) : (S.spoil k p c).lost = S.lost ∧ (S.spoil k p c).fused = S.fused ∧ (S.spoil k p c).left = S.left ∧ (S.spoil k p c).cnt = S.cnt ∧ (S.spoil k p c).med.length = S.med.length := by
  unfold Dv.spoil
  split
  · exact turn_keeps _ _
  · exact ⟨rfl, rfl, rfl, rfl, rfl⟩
theorem spoil_now {S : Dv} (k p : Int) (c : UInt8) (j : Nat) (h : k ≠ j) : (S.spoil k p c).now j = S.now j := by
  unfold Dv.spoil
  split
  · rename_i hb
    unfold Dv.spoilB at hb
    simp at hb
    obtain ⟨_, q, rfl, _⟩ := reach_zero hb.2
    exact turn_now _ _ _ (by simp; omega)
  · rfl
/-- A device at whose sector k a text stands. -/
structure Stand (S : Dv) (k m : Nat) (x : Sec) (t : Nat) : Prop where
  calm : Calm S
  len : S.med.length = m
  now : S.now k = x
  cnt : S.cnt ≤ t
def AloneRel (B b k n : Nat) (x : Sec) (w : World) (u : Value) (wr : World) : Prop :=
  ∃ t S, t ≤ n ∧ u = .int .i64 ((t : Nat) : Int) ∧ DevL B wr b S ∧ Stand S k 12 x (t + 1) ∧ Below B w wr

set_option maxRecDepth 100000 in
set_option maxHeartbeats 4000000 in
theorem walk_DevAlone (a : Option Addr) (len cap : Nat) (a1 a2 : Int) (w : World) (hr : ∃ l, Acts w.heap.size w a len l) (w1 : (Lit.int .u8 a1).wf = true) (w2 : (Lit.int .u8 a2).wf = true) :
    Calls Try.prog 8 #[.slice a len cap, .int .u8 a1, .int .u8 a2] w fun e w' => e = .returned (.bool true) ∧ Below w.heap.size w w' := by
  obtain ⟨l, hA⟩ := hr
  obtain ⟨at_, rfl⟩ := u8_of w1
  obtain ⟨fill, rfl⟩ := u8_of w2
  clear w1 w2
  have hmax := hA.1
  unfold maxLen at hmax
  have HA := Lib.hid hA
  clear hA
  have hat := at_.toNat_lt
  obtain ⟨k, haq⟩ : ∃ k : Nat, (at_.toNat : Int) % 12 = (k : Int) := ⟨at_.toNat % 12, by omega⟩
  have hk12 : k < 12 := by omega
  go_enter Try.func8, Try.ntmps8
  go_wp2_with fail
  (with_reducible refine (awake_any _).mono ?_)
  rintro e w1 ⟨rfl, b1⟩
  go_wp2_with fail
  (with_reducible refine (few_any w.heap.size a len cap l _ (HA.out.below b1)).mono ?_)
  rintro e w2 ⟨x, rfl, hx, rfl⟩
  cases x with
  | false =>
    go_wp2_with fail
    (with_reducible refine (awake_any _).mono ?_)
    rintro e w2 ⟨rfl, b2⟩
    go_wp2
    go_ret
    exact ⟨rfl, early b1 b1.size b2⟩
  | true =>
  have h80 := hx rfl
  clear hx
  go_wp2_with fail
  refine (newL 12 w.heap.size _ (by omega) (by omega) b1.size).mono ?_
  rintro e w2 ⟨b, rfl, h2, b2⟩
  have b12 := b1.trans b2
  have F := fun w => full_any fill w
  have W := fun w4 (h4 : DevL w.heap.size w4 b (newDv 12)) (b4 : Below w.heap.size w w4) => writeL w.heap.size b (newDv 12) (k : Int) (fullS fill) w4 h4 b4.size (fullS_len _) (by show 0 < _; omega)
  rw [((new_calm 12).write (j := k) (by simp [newDv]; omega) (fullS fill)).1, ((new_calm 12).write (j := k) (by simp [newDv]; omega) []).2] at W
  have hst : Hid (Stand ((newDv 12).put k (fullS fill)) k 12 (fullS fill) 1) := ⟨⟨rfl, rfl⟩, by simp [Dv.put, newDv], now_put_same _ _ _, Nat.le_refl _⟩
  generalize (newDv 12).put k (fullS fill) = S1 at *
  have HF := Lib.hid F
  generalize hgs : strOf (fullS fill) = sx at *
  have HGS := Lib.hid hgs
  clear hgs b1 b2
  go_wp2_with fail
  (with_reducible refine (F _).mono ?_)
  rintro e w3 ⟨rfl, b3⟩
  have b13 := early b12 b12.size b3
  have W := W w3 (h2.below b3) b13
  clear F h2
  go_wp2_with fail
  (with_reducible refine W.mono ?_)
  rintro e w4 ⟨rfl, h4, b4⟩
  have hrel0 : AloneRel w.heap.size b k len (fullS fill) w (.int .i64 0) w4 := ⟨0, S1, Nat.zero_le _, rfl, h4, hst.out, b13.trans b4⟩
  clear W h4 b4 b13 b3 b12 hst
  go_wp2_with fail
  go_loopw [10] (fun u wr => AloneRel w.heap.size b k len (fullS fill) w u wr) (fun u _ => len - (intOf u).toNat)
  case atStart => exact hrel0
  case round =>
    obtain ⟨t, S, ht, rfl, hd, hS, hb⟩ := hrel
    clear hrel0
    by_cases hlt : t < len
    · obtain ⟨x, g, o, _, rfl, hx⟩ := (HA.out.below hb).act hlt
      have hg := hx.lt
      have c0 := hx.c0
      have c1 := hx.c1
      have c2 := hx.c2
      have c3 := hx.c3
      have hxn0 := hx.n0
      have hxn1 := hx.n1
      clear hx
      by_cases hak : x.at_ = (k : Int)
      · rw [hak] at c1
        have d1 : ((k : Int) == (k : Int)) = true := by simp
        go_wp2
        go_roundw
        case rel => exact ⟨t + 1, S, by omega, by go_num, hd, ⟨hS.calm, hS.len, hS.now, by have := hS.cnt; omega⟩, hb⟩
        case measure => simp [intOf]; omega
      have d1 : (x.at_ == (k : Int)) = false := by simpa using hak
      have hdo := x.do_.toNat_lt
      obtain ⟨dq, hdq⟩ : ∃ dq : Nat, (x.do_.toNat : Int) % 3 = (dq : Int) := ⟨x.do_.toNat % 3, by omega⟩
      have hdq3 : dq < 3 := by omega
      have hcn := hS.cnt
      have bd : Below w.heap.size w wr.drew := hb.drew
      have q4 : (t : Int) < (len : Int) := by omega
      by_cases hq0 : dq = 0
      · subst hq0
        have F := fun w => full_any x.fill w
        have W := fun w4 (b4 : Below wr.drew.heap.size wr.drew w4) => writeL w.heap.size b S x.at_ (fullS x.fill) w4 ((hd.below (Below.refl _ wr).drew).below b4) (Nat.le_trans hb.size b4.size) (fullS_len _) (by omega)
        obtain ⟨k1, k2, _⟩ := write_keeps S x.at_ (fullS x.fill)
        have HS2 : Hid (Stand (S.write x.at_ (fullS x.fill)) k 12 (fullS fill) (t + 2)) := ⟨write_calm hS.calm _ _, by rw [k1]; exact hS.len, by rw [write_now _ _ _ hak]; exact hS.now, by omega⟩
        clear k1 k2 hd hS
        generalize S.write x.at_ (fullS x.fill) = S2 at *
        generalize S.writeE x.at_ = ve at *
        generalize strOf (fullS x.fill) = st at *
        generalize (x.fill.toNat : Int) = fc at *
        generalize x.at_ = xa at *
        go_wp2_with fail
        go_region_held3 (fun w' => w'.cell? ⟨g, o + t * 5 + 1, none⟩ = some (.int .i64 xa) ∧ w'.cell? ⟨g, o + t * 5 + 3, none⟩ = some (.int .u8 fc)) (first | exact ⟨c1, c3⟩ | exact ⟨k1, k3⟩ | exact ⟨m1, m3⟩)
          (first
            | (go_at_call 14; refine (F _).mono ?_; rintro e w4 ⟨rfl, b4⟩; have b5 := early bd bd.size b4; have k1 := (b4.cell (p := ⟨g, o + t * 5 + 1, none⟩) (Nat.lt_of_lt_of_le hg bd.size)).trans c1; have k3 := (b4.cell (p := ⟨g, o + t * 5 + 3, none⟩) (Nat.lt_of_lt_of_le hg bd.size)).trans c3)
            | (go_at_call 13; refine (W w4 b4).mono ?_; rintro e w5 ⟨rfl, h5, b6⟩; have m1 := (b6.cell (p := ⟨g, o + t * 5 + 1, none⟩) hg).trans k1; have m3 := (b6.cell (p := ⟨g, o + t * 5 + 3, none⟩) hg).trans k3))
        have b7 := b5.trans b6
        clear k1 k3 m1 m3 c0 c1 c2 c3 W F b4 b6 b5 bd q4
        have R := readL w.heap.size b S2 (k : Int) w5 h5
        rw [HS2.out.calm.read (by rw [HS2.out.len]; exact hk12), HS2.out.now, HGS.out] at R
        have F := HF.out
        go_wp2_with fail
        (with_reducible refine R.mono ?_)
        rintro e w6 ⟨rfl, rfl⟩
        clear R
        go_wp2_with fail
        (with_reducible refine (F _).mono ?_)
        rintro e w6 ⟨rfl, b8⟩
        clear F
        go_wp2
        go_roundw
        case rel => exact ⟨t + 1, S2, by omega, by go_num, h5.below b8, HS2.out, early b7 b7.size b8⟩
        case measure => simp [intOf]; omega
      by_cases hq1 : dq = 1
      · subst hq1
        have W := spoilL w.heap.size b S x.at_ x.n x.fill wr.drew (hd.below (Below.refl _ wr).drew) hb.size
        obtain ⟨k1, k2, _, k4, k5⟩ := spoil_keeps (S := S) x.at_ x.n x.fill
        have HS2 : Hid (Stand (S.spoil x.at_ x.n x.fill) k 12 (fullS fill) (t + 2)) := ⟨⟨by rw [k1]; exact hS.calm.lost, by rw [k2]; exact hS.calm.fused⟩, by rw [k5]; exact hS.len, by rw [spoil_now _ _ _ _ hak]; exact hS.now, by omega⟩
        clear k1 k2 k4 k5 hd hS
        generalize S.spoil x.at_ x.n x.fill = S2 at *
        generalize S.spoilB x.at_ x.fill = ve at *
        generalize (x.fill.toNat : Int) = fc at *
        generalize x.at_ = xa at *
        generalize x.n = xn at *
        go_wp2_with fail
        go_region_held3 (fun w' => w'.cell? ⟨g, o + t * 5 + 1, none⟩ = some (.int .i64 xa) ∧ w'.cell? ⟨g, o + t * 5 + 2, none⟩ = some (.int .i64 xn) ∧ w'.cell? ⟨g, o + t * 5 + 3, none⟩ = some (.int .u8 fc)) (first | exact ⟨c1, c2, c3⟩ | exact ⟨m1, m2, m3⟩)
          (first
            | (go_at_call 23; refine W.mono ?_; rintro e w5 ⟨rfl, h5, b6⟩; have m1 := (b6.cell (p := ⟨g, o + t * 5 + 1, none⟩) hg).trans c1; have m2 := (b6.cell (p := ⟨g, o + t * 5 + 2, none⟩) hg).trans c2; have m3 := (b6.cell (p := ⟨g, o + t * 5 + 3, none⟩) hg).trans c3))
        have b7 := bd.trans b6
        clear m1 m2 m3 c0 c1 c2 c3 W b6 bd q4
        have R := readL w.heap.size b S2 (k : Int) w5 h5
        rw [HS2.out.calm.read (by rw [HS2.out.len]; exact hk12), HS2.out.now, HGS.out] at R
        have F := HF.out
        go_wp2_with fail
        (with_reducible refine R.mono ?_)
        rintro e w6 ⟨rfl, rfl⟩
        clear R
        go_wp2_with fail
        (with_reducible refine (F _).mono ?_)
        rintro e w6 ⟨rfl, b8⟩
        clear F
        go_wp2
        go_roundw
        case rel => exact ⟨t + 1, S2, by omega, by go_num, h5.below b8, HS2.out, early b7 b7.size b8⟩
        case measure => simp [intOf]; omega
      · have d2 : ((dq : Int) == 0) = false := by simp; omega
        have d3 : ((dq : Int) == 1) = false := by simp; omega
        have W := flushLw w.heap.size b S wr hd hb.size (by omega)
        rw [hS.calm.flush.1, hS.calm.flush.2] at W
        have HS2 : Hid (Stand S.flush k 12 (fullS fill) (t + 2)) := ⟨⟨hS.calm.lost, hS.calm.fused⟩, by simp [Dv.flush, hS.len], by rw [now_flush _ _ (by rw [hS.len]; exact hk12)]; exact hS.now, Nat.zero_le _⟩
        clear hd hS
        generalize S.flush = S2 at *
        go_wp2_with fail
        (with_reducible refine W.mono ?_)
        rintro e w5 ⟨rfl, h5, b6⟩
        have b7 := hb.trans b6
        clear W b6 c0 c1 c2 c3 bd q4
        have R := readL w.heap.size b S2 (k : Int) w5 h5
        rw [HS2.out.calm.read (by rw [HS2.out.len]; exact hk12), HS2.out.now, HGS.out] at R
        have F := HF.out
        go_wp2_with fail
        (with_reducible refine R.mono ?_)
        rintro e w6 ⟨rfl, rfl⟩
        clear R
        go_wp2_with fail
        (with_reducible refine (F _).mono ?_)
        rintro e w6 ⟨rfl, b8⟩
        clear F
        go_wp2
        go_roundw
        case rel => exact ⟨t + 1, S2, by omega, by go_num, h5.below b8, HS2.out, early b7 b7.size b8⟩
        case measure => simp [intOf]; omega
    · obtain rfl : t = len := by omega
      go_wp2
      go_ret
      exact ⟨rfl, hb⟩
end Go.Proofs.Ytmkheikllbjcbaa
