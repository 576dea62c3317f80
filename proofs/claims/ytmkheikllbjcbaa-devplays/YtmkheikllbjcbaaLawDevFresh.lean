/-
  The walk of polderlaw04.DevFresh.
-/
import Derived.Test.YtmkheikllbjcbaaDs
namespace Go.Proofs.Ytmkheikllbjcbaa
open Go.RowKit Go.Maps

theorem write_keeps (S : Dv) (k : Int) (x : Sec) : (S.write k x).med = S.med ∧ (S.write k x).cnt ≤ S.cnt + 1 ∧ (S.write k x).lost = S.lost := by
  unfold Dv.write
  split
  · exact ⟨rfl, Nat.le_refl _, rfl⟩
  · exact ⟨rfl, Nat.le_succ _, rfl⟩
theorem fresh_now (S : Dv) (c : UInt8) (k : Nat) (h : k < S.med.length) : (S.fresh c).now k = fullS c := by
  show (List.replicate S.med.length (fullS c)).getD k [] = _
  rw [List.getD_eq_getElem?_getD, List.getElem?_replicate, if_pos h]
  rfl
theorem fresh_calm (S : Dv) (c : UInt8) : Calm (S.fresh c) := ⟨rfl, rfl⟩
theorem fresh_len (S : Dv) (c : UInt8) : (S.fresh c).med.length = S.med.length := by simp [Dv.fresh]
theorem fresh_keys (S : Dv) (c : UInt8) : (S.fresh c).keys = [] := by simp [Dv.keys, Dv.fresh]
def ActsRel (B b n m : Nat) (w : World) (u : Value) (wr : World) : Prop :=
  ∃ t S, t ≤ n ∧ u = .int .i64 ((t : Nat) : Int) ∧ DevL B wr b S ∧ S.med.length = m ∧ S.cnt ≤ t ∧ Below B w wr
def ReadsRel (B b : Nat) (S : Dv) (w : World) (u : Value) (wr : World) : Prop :=
  ∃ t : Nat, t ≤ 6 ∧ u = .int .i64 (t : Int) ∧ DevL B wr b S ∧ Below B w wr
theorem mod_u8 (x : UInt8) (m : Nat) : ((x.toNat : Int) % (m : Int)) = ((x.toNat % m : Nat) : Int) := by simp

set_option maxRecDepth 100000 in
set_option maxHeartbeats 2000000 in
theorem walk_DevFresh (a : Option Addr) (len cap : Nat) (a1 a2 : Int) (w : World) (hr : ∃ l, Acts w.heap.size w a len l) (w1 : (Lit.int .u8 a1).wf = true) (w2 : (Lit.int .u8 a2).wf = true) :
    Calls Try.prog 9 #[.slice a len cap, .int .u8 a1, .int .u8 a2] w fun e w' => e = .returned (.bool true) ∧ Below w.heap.size w w' := by
  obtain ⟨l, hA⟩ := hr
  obtain ⟨fill, rfl⟩ := u8_of w1
  obtain ⟨at_, rfl⟩ := u8_of w2
  clear w1 w2
  have hmax := hA.1
  unfold maxLen at hmax
  have HA := Lib.hid hA
  clear hA
  have hat := at_.toNat_lt
  obtain ⟨aq, haq⟩ : ∃ aq : Nat, (at_.toNat : Int) % 6 = (aq : Int) := ⟨at_.toNat % 6, by omega⟩
  have haq6 : aq < 6 := by omega
  go_enter Try.func9, Try.ntmps9
  go_wp2_with fail
  (with_reducible refine (awake_any _).mono ?_)
  rintro e w1 ⟨rfl, b1⟩
  go_wp2_with fail
  (with_reducible refine (few_any w.heap.size a len cap l _ (HA.out.below b1)).mono ?_)
  rintro e w2 ⟨x, rfl, hx, rfl⟩
  cases x with
  | false =>
    go_wp2_with fail
    (with_reducible refine (awake_any _).mono ?_)
    rintro e w2 ⟨rfl, b2⟩
    go_wp2
    go_ret
    exact ⟨rfl, early b1 b1.size b2⟩
  | true =>
  have h80 := hx rfl
  clear hx
  go_wp2_with fail
  refine (newL 6 w.heap.size _ (by omega) (by omega) b1.size).mono ?_
  rintro e w2 ⟨b, rfl, h2, b2⟩
  have hrel0 : ActsRel w.heap.size b len 6 w (.int .i64 0) w2 := ⟨0, _, Nat.zero_le _, rfl, h2, rfl, Nat.le_refl _, b1.trans b2⟩
  clear h2 b1 b2
  go_wp2_with fail
  go_loopw [9] (fun u wr => ActsRel w.heap.size b len 6 w u wr) (fun u _ => len - (intOf u).toNat)
  case atStart => exact hrel0
  case round =>
    obtain ⟨t, S, ht, rfl, hd, hmed, hcnt, hb⟩ := hrel
    clear hrel0
    by_cases hlt : t < len
    · obtain ⟨x, g, o, _, rfl, hx⟩ := (HA.out.below hb).act hlt
      have hg := hx.lt
      have c0 := hx.c0
      have c1 := hx.c1
      have c3 := hx.c3
      have F := fun w => full_any x.fill w
      have W := fun w4 (b4 : Below wr.drew.heap.size wr.drew w4) => writeL w.heap.size b S x.at_ (fullS x.fill) w4 ((hd.below (Below.refl _ wr).drew).below b4) (Nat.le_trans hb.size b4.size) (fullS_len _) (by omega)
      obtain ⟨k1, k2, k3⟩ := write_keeps S x.at_ (fullS x.fill)
      have HK1 : Hid ((S.write x.at_ (fullS x.fill)).med.length = 6) := by show _ = _; rw [k1]; exact hmed
      have HK2 : Hid ((S.write x.at_ (fullS x.fill)).cnt ≤ t + 1) := by show _ ≤ _; omega
      have hdo := x.do_.toNat_lt
      obtain ⟨dq, hdq⟩ : ∃ dq : Nat, (x.do_.toNat : Int) % 4 = (dq : Int) := ⟨x.do_.toNat % 4, by omega⟩
      have bd : Below w.heap.size w wr.drew := hb.drew
      clear hx k1 k2 k3 hd hmed hcnt
      generalize S.write x.at_ (fullS x.fill) = S2 at *
      generalize S.writeE x.at_ = ve at *
      generalize strOf (fullS x.fill) = st at *
      generalize (x.fill.toNat : Int) = fc at *
      generalize x.at_ = xa at *
      go_wp2_with fail
      have q4 : (t : Int) < (len : Int) := by omega
      go_region_held3 (fun w' => w'.cell? ⟨g, o + t * 5 + 1, none⟩ = some (.int .i64 xa) ∧ w'.cell? ⟨g, o + t * 5 + 3, none⟩ = some (.int .u8 fc)) (first | exact ⟨c1, c3⟩ | exact ⟨k1, k3⟩ | exact ⟨m1, m3⟩)
        (first
          | (go_at_call 14; refine (F _).mono ?_; rintro e w4 ⟨rfl, b4⟩; have b5 := early bd bd.size b4; have k1 := (b4.cell (p := ⟨g, o + t * 5 + 1, none⟩) (Nat.lt_of_lt_of_le hg bd.size)).trans c1; have k3 := (b4.cell (p := ⟨g, o + t * 5 + 3, none⟩) (Nat.lt_of_lt_of_le hg bd.size)).trans c3)
          | (go_at_call 13; refine (W w4 b4).mono ?_; rintro e w5 ⟨rfl, h5, b6⟩; have m1 := (b6.cell (p := ⟨g, o + t * 5 + 1, none⟩) hg).trans k1; have m3 := (b6.cell (p := ⟨g, o + t * 5 + 3, none⟩) hg).trans k3))
      have n0 : w5.cell? ⟨g, o + t * 5, none⟩ = some (.int .u8 (x.do_.toNat : Int)) := (b6.cell (p := ⟨g, o + t * 5, none⟩) hg).trans ((b4.cell (p := ⟨g, o + t * 5, none⟩) (Nat.lt_of_lt_of_le hg bd.size)).trans c0)
      have b7 := b5.trans b6
      clear k1 k3 m1 m3 c0 c1 c3 W F b4 b6 bd q4
      have HW5 := Lib.hid h5
      by_cases hq3 : dq = 3
      · subst hq3
        have L := loseL w.heap.size b S2 w5 h5 b7.size
        clear h5
        go_wp2_with fail
        (with_reducible refine L.mono ?_)
        rintro e w6 ⟨rfl, h6, b8⟩
        clear L n0
        go_wp2
        go_roundw
        case rel => exact ⟨t + 1, _, by omega, by go_num, h6, HK1.out, Nat.zero_le _, b7.trans b8⟩
        case measure => simp [intOf]; omega
      · have d3 : ((dq : Int) == 3) = false := by simp; omega
        clear h5
        go_wp2
        go_roundw
        case rel => exact ⟨t + 1, S2, by omega, by go_num, HW5.out, HK1.out, HK2.out, b7⟩
        case measure => simp [intOf]; omega
    · obtain rfl : t = len := by omega
      have U := fuseL w.heap.size b S 0 wr hd hb.size (by omega)
      have X := fun w4 h4 (b4 : Below w.heap.size w w4) => freshLw w.heap.size b { S with fused := true, left := (0 : Int).toNat } fill w4 h4 b4.size
      have e7 : Calm (({ S with fused := true, left := (0 : Int).toNat } : Dv).fresh fill) := fresh_calm _ _
      have hl7 : (({ S with fused := true, left := (0 : Int).toNat } : Dv).fresh fill).med.length = 6 := by rw [fresh_len]; exact hmed
      have hn7 : Hid (∀ k, k < 6 → (({ S with fused := true, left := (0 : Int).toNat } : Dv).fresh fill).now k = fullS fill) := fun k hk => fresh_now _ _ _ (by show k < S.med.length; omega)
      have hc7 : (({ S with fused := true, left := (0 : Int).toNat } : Dv).fresh fill).cnt = 0 := rfl
      have hk7 : (({ S with fused := true, left := (0 : Int).toNat } : Dv).fresh fill).keys = [] := fresh_keys _ _
      generalize ({ S with fused := true, left := (0 : Int).toNat } : Dv).fresh fill = S7 at *
      generalize ({ S with fused := true, left := (0 : Int).toNat } : Dv) = S6 at *
      clear hd hmed hcnt ht hlt
      have E7 := Lib.hid e7
      have HL7 := Lib.hid hl7
      have HC7 := Lib.hid hc7
      have HK7 := Lib.hid hk7
      clear e7 hl7 hc7 hk7
      go_wp2_with fail
      (with_reducible refine U.mono ?_)
      rintro e w4 ⟨rfl, h4, b4⟩
      have b5 := hb.trans b4
      have X := X w4 h4 b5
      clear U
      go_wp2_with fail
      (with_reducible refine X.mono ?_)
      rintro e w5 ⟨rfl, h5, b6⟩
      have b7 := b5.trans b6
      clear X h4 b4 b6 b5
      have F := Lib.hid (fun w => full_any fill w)
      have hrel1 : ReadsRel w.heap.size b S7 w (.int .i64 0) w5 := ⟨0, Nat.zero_le _, rfl, h5, b7⟩
      clear h5 b7
      go_wp2_with fail
      go_loopw [10] (fun u wr => ReadsRel w.heap.size b S7 w u wr) (fun u _ => 6 - (intOf u).toNat)
      case atStart => exact hrel1
      case round =>
        obtain ⟨q, hq, rfl, hd, hbq⟩ := hrel
        clear hrel1
        by_cases hlt : q < 6
        · have R := readL w.heap.size b S7 (q : Int) wr hd
          rw [E7.out.read (by rw [HL7.out]; exact hlt), hn7.out q hlt] at R
          have F := F.out
          generalize strOf (fullS fill) = st at *
          go_wp2_with fail
          (with_reducible refine R.mono ?_)
          rintro e w6 ⟨rfl, rfl⟩
          clear R
          go_wp2_with fail
          (with_reducible refine (F _).mono ?_)
          rintro e w6 ⟨rfl, b8⟩
          clear F
          go_wp2
          go_roundw
          case rel => exact ⟨q + 1, by omega, by go_num, hd.below b8, early hbq hbq.size b8⟩
          case measure => simp [intOf]; omega
        · obtain rfl : q = 6 := by omega
          have L := lostL w.heap.size b S7 wr hd
          rw [E7.out.lost] at L
          have K := cachedL w.heap.size b S7 wr hd (by rw [HC7.out]; omega)
          rw [HK7.out] at K
          have W := fun w4 (h4 : DevL w.heap.size w4 b S7) (b4 : Below w.heap.size w w4) => writeL w.heap.size b S7 (aq : Int) (fullS at_) w4 h4 b4.size (fullS_len _) (by rw [HC7.out]; omega)
          rw [(E7.out.write (j := aq) (by rw [HL7.out]; exact haq6) (fullS at_)).1, (E7.out.write (j := aq) (by rw [HL7.out]; exact haq6) []).2] at W
          have e8 : Calm (S7.put aq (fullS at_)) := ⟨E7.out.lost, E7.out.fused⟩
          have hl8 : Hid ((S7.put aq (fullS at_)).med.length = 6) := HL7.out
          have hc8 : (S7.put aq (fullS at_)).cnt ≤ 4294967296 := by show S7.cnt + 1 ≤ _; rw [HC7.out]; omega
          generalize S7.put aq (fullS at_) = S8 at *
          have U := fun w4 (h4 : DevL w.heap.size w4 b S8) (b4 : Below w.heap.size w w4) => flushLw w.heap.size b S8 w4 h4 b4.size hc8
          rw [e8.flush.1, e8.flush.2] at U
          have hl9 : S8.flush.med.length = 6 := by simp [Dv.flush, hl8.out]
          generalize S8.flush = S9 at *
          have C := fun w4 (h4 : DevL w.heap.size w4 b S9) => secsL w.heap.size b S9 w4 h4
          rw [hl9] at C
          have F2 := fun w => full_any at_ w
          generalize strOf (fullS at_) = st at *
          clear e8 hc8 hl9 hlt hq
          go_wp2_with fail
          (with_reducible refine L.mono ?_)
          rintro e w6 ⟨rfl, rfl⟩
          clear L
          go_wp2_with fail
          refine K.mono ?_
          rintro e w6 ⟨v, rfl, hv, b8⟩
          clear K
          have hvn : ∃ a c, v = .slice a 0 c := by
            rcases hv.2 with ⟨rfl, _⟩ | ⟨g, c, cur, rfl, _⟩
            · exact ⟨_, _, rfl⟩
            · exact ⟨_, _, rfl⟩
          obtain ⟨va, vc, rfl⟩ := hvn
          clear hv
          have b9 := early hbq hbq.size b8
          have h9 := hd.below b8
          go_wp2_with fail
          (with_reducible refine (F2 _).mono ?_)
          rintro e w7 ⟨rfl, b10⟩
          have b11 := early b9 b9.size b10
          have W := W w7 (h9.below b10) b11
          clear F2
          go_wp2_with fail
          (with_reducible refine W.mono ?_)
          rintro e w8 ⟨rfl, h8, b12⟩
          have b13 := b11.trans b12
          have U := U w8 h8 b13
          clear W
          go_wp2_with fail
          (with_reducible refine U.mono ?_)
          rintro e w9 ⟨rfl, h10, b14⟩
          have b15 := b13.trans b14
          have C := C w9 h10
          clear U
          go_wp2_with fail
          (with_reducible refine C.mono ?_)
          rintro e w10 ⟨rfl, rfl⟩
          clear C
          go_wp2
          go_ret
          exact ⟨rfl, b15⟩
end Go.Proofs.Ytmkheikllbjcbaa
