/-
  The walk of polderlaw11.SpaceCopies.
-/
import Derived.Test.YtoiiaacjpobaeaaSj
namespace Go.Proofs.Ytoiiaacjpobaeaa
set_option maxRecDepth 100000
open Go.RowKit

/-- Where the calls have come to. -/
def AtCall (B : Nat) (x : Nat → Prop) (b : Nat) (z : Int) (n : Nat) (W : World) (u : Value) (wr : World) : Prop :=
  ∃ (t : Nat) (l : List (Int × Int)), t ≤ n ∧ u = .int .i64 (t : Int) ∧ Hid (WF z l) ∧ Hid (MapIn B x wr b z l) ∧ Hid (Below B W wr)

set_option maxRecDepth 100000 in
set_option maxHeartbeats 4000000 in
theorem walk_SpaceCopies (a0 : Option Addr) (len0 cap0 : Nat) (a1 : Option Addr) (len1 cap1 : Nat) (w : World) (hr0 : ∃ f, Acts w a0 len0 f) (hr1 : ∃ f, Acts w a1 len1 f) :
    Calls Try.prog 6 #[.slice a0 len0 cap0, .slice a1 len1 cap1] w fun e w' => e = .returned (.bool true) ∧ Below w.heap.size w w' := by
  obtain ⟨f0, hA0⟩ := hr0
  obtain ⟨f1, hA1⟩ := hr1
  have HA0 := Lib.hid hA0
  have HA1 := Lib.hid hA1
  have hm0 := hA0.1
  have hm1 := hA1.1
  unfold maxLen at hm0 hm1
  clear hA0 hA1
  by_cases h0 : 100 < len0
  · have d0 : decide ((100 : Int) < (len0 : Int)) = true := by simp; omega
    go_enter Try.func6, Try.ntmps6
    go_wp2_with fail
    refine (awake_any _).mono ?_
    rintro e w1 ⟨rfl, b1⟩
    go_wp2_with fail
    refine (awake_any _).mono ?_
    rintro e w2 ⟨rfl, b2⟩
    go_wp2
    go_ret
    exact ⟨rfl, next b1 b2⟩
  have d0 : decide ((100 : Int) < (len0 : Int)) = false := by simp; omega
  by_cases h1 : 100 < len1
  · have d1 : decide ((100 : Int) < (len1 : Int)) = true := by simp; omega
    go_enter Try.func6, Try.ntmps6
    go_wp2_with fail
    refine (awake_any _).mono ?_
    rintro e w1 ⟨rfl, b1⟩
    go_wp2_with fail
    refine (awake_any _).mono ?_
    rintro e w2 ⟨rfl, b2⟩
    go_wp2
    go_ret
    exact ⟨rfl, next b1 b2⟩
  have d1 : decide ((100 : Int) < (len1 : Int)) = false := by simp; omega
  go_enter Try.func6, Try.ntmps6
  go_wp2_with fail
  refine (awake_any _).mono ?_
  rintro e w1 ⟨rfl, b1⟩
  go_wp2_with fail
  refine (new_ok 40 w1 (by omega) (by omega)).mono ?_
  rintro e w2 ⟨b, rfl, h2, b2⟩
  have hrel0 : AtCall w.heap.size noX b 40 len0 w (.int .i64 0) w2 := ⟨0, [], Nat.zero_le _, rfl, Lib.hid (WF.nil 40), Lib.hid (h2.lower b1.size), Lib.hid (next b1 b2)⟩
  clear h2 b1 b2
  go_wp2_with fail
  go_loopw [7] (fun u wr => AtCall w.heap.size noX b 40 len0 w u wr) (fun u _ => len0 - (intOf u).toNat)
  case atStart => exact hrel0
  case round =>
    obtain ⟨t, l, ht, rfl, HW, HM, HB⟩ := hrel
    clear hrel0
    by_cases hlt : t < len0
    · obtain ⟨g, o, rfl, hg, hx⟩ := HA0.out.at_ HB.out hlt
      generalize f0 t = x at hx
      obtain ⟨xd, xa, xn⟩ := x
      have c1 : wr.drew.cell? ⟨g, o + t * 3 + 1, none⟩ = some (.int .i64 xa) := hx.c1
      have c2 : wr.drew.cell? ⟨g, o + t * 3 + 2, none⟩ = some (.int .i64 xn) := hx.c2
      obtain ⟨r, l', hR, hT⟩ := take_any HW.out (by omega) xa xn hx.n0
      have HR := Lib.hid hR
      have HT := Lib.hid (hT _ _ _ _ (HM.out.below (Below.refl _ wr).drew))
      clear hx hR hT
      go_wp2_with fail
      go_region_held3 (fun W => W.cell? ⟨g, o + t * 3 + 1, none⟩ = some (.int .i64 xa) ∧ W.cell? ⟨g, o + t * 3 + 2, none⟩ = some (.int .i64 xn))
        (first | exact ⟨c1, c2⟩ | exact ⟨k1, k2⟩)
        (first | (go_at_call 11; refine HT.out.mono ?_; rintro e w3 ⟨rfl, h3, k3⟩; have k1 := (k3.low.cell (p := ⟨g, o + t * 3 + 1, none⟩) hg).trans c1; have k2 := (k3.low.cell (p := ⟨g, o + t * 3 + 2, none⟩) hg).trans c2; have H3 := Lib.hid h3; have K3 := Lib.hid ((HB.out.trans (Below.refl _ wr).drew).trans k3.low); clear h3 k3))
      go_wp2
      go_roundw
      case rel => exact ⟨t + 1, l', by omega, by go_num, Lib.hid (HR.out.wf HW.out), H3, K3⟩
      case measure => simp [intOf]; omega
    · obtain rfl : t = len0 := by omega
      have hll := HW.out.len (by omega)
      go_wp2_with fail
      refine (copy_ok HM.out (by omega)).mono ?_
      rintro e w3 ⟨b2, rfl, h3, b3⟩
      have HM3 := Lib.hid (HM.out.below b3)
      have HL := Lib.hid (fun W => left_ok (w := W) (B := w.heap.size) (x := noX) (b := b) (l := l) (z := 40))
      obtain ⟨y, hy⟩ : ∃ y, 40 - sumR l = y := ⟨_, rfl⟩
      rw [hy] at HL
      clear hy hll
      go_wp2_with fail
      refine (HL.out _ HM3.out HW.out (by omega)).mono ?_
      rintro e w4 ⟨rfl, b4⟩
      have hrel1 : AtCall wr.heap.size noX b2 40 len1 wr (.int .i64 0) w4 := ⟨0, l, Nat.zero_le _, rfl, HW, Lib.hid (h3.below b4), Lib.hid (next b3 b4)⟩
      have hsw : w.heap.size ≤ wr.heap.size := HB.out.size
      clear h3 b3 b4 HM3
      generalize wr = wA at *
      go_wp2_with fail
      go_loopw [10] (fun u wq => AtCall wA.heap.size noX b2 40 len1 wA u wq) (fun u _ => len1 - (intOf u).toNat)
      case atStart => exact hrel1
      case round =>
        obtain ⟨s, l2, hs, rfl, HW2, HM2, HB2⟩ := hrel
        clear hrel1
        by_cases hlt2 : s < len1
        · obtain ⟨g, o, rfl, hg, hx⟩ := HA1.out.at_ (next HB.out HB2.out) hlt2
          have hg2 : g < wA.heap.size := by omega
          generalize f1 s = x at hx
          obtain ⟨xd, xa, xn⟩ := x
          have c1 : wr.drew.cell? ⟨g, o + s * 3 + 1, none⟩ = some (.int .i64 xa) := hx.c1
          have c2 : wr.drew.cell? ⟨g, o + s * 3 + 2, none⟩ = some (.int .i64 xn) := hx.c2
          obtain ⟨r, l', hR, hT⟩ := take_any HW2.out (by omega) xa xn hx.n0
          have HT := Lib.hid (hT _ _ _ _ (HM2.out.below (Below.refl _ wr).drew))
          have HWl := Lib.hid (hR.wf HW2.out)
          obtain ⟨r', l'', hR', hT'⟩ := free_any HWl.out (by omega) xn xa hx.a0
          have HT' := Lib.hid hT'
          have HWl' := Lib.hid (hR'.wf HWl.out)
          clear hx hR hT hR' hT'
          go_wp2_with fail
          go_region_held3 (fun W => W.cell? ⟨g, o + s * 3 + 1, none⟩ = some (.int .i64 xa) ∧ W.cell? ⟨g, o + s * 3 + 2, none⟩ = some (.int .i64 xn))
            (first | exact ⟨c1, c2⟩ | exact ⟨k1, k2⟩)
            (first | (go_at_call 11; refine HT.out.mono ?_; rintro e w5 ⟨rfl, h5, k5⟩; have k1 := (k5.low.cell (p := ⟨g, o + s * 3 + 1, none⟩) hg2).trans c1; have k2 := (k5.low.cell (p := ⟨g, o + s * 3 + 2, none⟩) hg2).trans c2; have H5 := Lib.hid h5; have K5 := Lib.hid ((HB2.out.trans (Below.refl _ wr).drew).trans k5.low); clear h5 k5))
          clear c1 c2
          have c1 : w5.drew.cell? ⟨g, o + s * 3 + 1, none⟩ = some (.int .i64 xa) := k1
          have c2 : w5.drew.cell? ⟨g, o + s * 3 + 2, none⟩ = some (.int .i64 xn) := k2
          have HT2 := Lib.hid (HT'.out _ _ _ _ (H5.out.below (Below.refl _ w5).drew))
          clear k1 k2
          go_wp2_with fail
          go_region_held3 (fun W => W.cell? ⟨g, o + s * 3 + 1, none⟩ = some (.int .i64 xa) ∧ W.cell? ⟨g, o + s * 3 + 2, none⟩ = some (.int .i64 xn))
            (first | exact ⟨c1, c2⟩ | exact ⟨k1, k2⟩)
            (first | (go_at_call 12; refine HT2.out.mono ?_; rintro e w6 ⟨rfl, h6, k6⟩; have k1 := (k6.low.cell (p := ⟨g, o + s * 3 + 1, none⟩) hg2).trans c1; have k2 := (k6.low.cell (p := ⟨g, o + s * 3 + 2, none⟩) hg2).trans c2; have H6 := Lib.hid h6; have K6 := Lib.hid ((K5.out.trans (Below.refl _ w5).drew).trans k6.low); clear h6 k6))
          go_wp2
          go_roundw
          case rel => exact ⟨s + 1, l'', by omega, by go_num, HWl', H6, K6⟩
          case measure => simp [intOf]; omega
        · obtain rfl : s = len1 := by omega
          have HMw := Lib.hid (HM.out.below HB2.out)
          have hyy : (y == y) = true := by simp
          go_wp2_with fail
          refine (Find_nil _).mono ?_
          rintro e w5 ⟨rfl, rfl⟩
          go_wp2_with fail
          refine (HL.out _ HMw.out HW.out (by omega)).mono ?_
          rintro e w6 ⟨rfl, b6⟩
          have HB6 := Lib.hid (next HB.out (next HB2.out b6))
          have HM6 := Lib.hid (HM2.out.below b6)
          clear b6
          go_wp2_with fail
          refine (size_ok HM6.out).mono ?_
          rintro e w7 ⟨rfl, rfl⟩
          go_wp2_with fail
          refine (take_nil 0 1 _).mono ?_
          rintro e w7 ⟨rfl, rfl⟩
          go_wp2_with fail
          refine (free_nil 0 1 _).mono ?_
          rintro e w7 ⟨rfl, rfl⟩
          go_wp2_with fail
          refine (left_nil _).mono ?_
          rintro e w7 ⟨rfl, rfl⟩
          go_wp2_with fail
          refine (size_nil _).mono ?_
          rintro e w7 ⟨rfl, rfl⟩
          go_wp2_with fail
          refine (runs_nil _).mono ?_
          rintro e w7 ⟨rfl, rfl⟩
          go_wp2_with fail
          refine (copy_nil _).mono ?_
          rintro e w7 ⟨rfl, rfl⟩
          go_wp2
          go_ret
          exact ⟨rfl, HB6.out⟩
end Go.Proofs.Ytoiiaacjpobaeaa
