/-
  The walk of polderlaw11.SpaceFinds.
-/
import Derived.Test.YtoiiaacjpobaeaaSj
namespace Go.Proofs.Ytoiiaacjpobaeaa
set_option maxRecDepth 100000
open Go.RowKit

/-- Where the calls have come to. -/
def AtCall (B : Nat) (x : Nat → Prop) (b : Nat) (z : Int) (n : Nat) (W : World) (u : Value) (wr : World) : Prop :=
  ∃ (t : Nat) (l : List (Int × Int)), t ≤ n ∧ u = .int .i64 (t : Int) ∧ Hid (WF z l) ∧ Hid (MapIn B x wr b z l) ∧ Hid (Below B W wr)

/-- Where the copies have come to. -/
def CopyRel (B : Nat) (b : Nat) (z : Int) (l : List (Int × Int)) (n : Int) (W : World) (u : Value) (wr : World) : Prop :=
  ∃ s : Nat, (s : Int) ≤ n ∧ u = .int .i64 (s : Int) ∧ Hid (MapIn B noX wr b z l) ∧ Hid (Below B W wr)

set_option maxRecDepth 100000 in
set_option maxHeartbeats 4000000 in
theorem walk_SpaceFinds (a0 : Int) (a1 : Option Addr) (len1 cap1 : Nat) (a2 a3 : Int) (w : World) (w0 : (Lit.int .u8 a0).wf = true) (hr1 : ∃ f, Acts w a1 len1 f) (w2 : (Lit.int .u8 a2).wf = true) (w3 : (Lit.int .u8 a3).wf = true) :
    Calls Try.prog 3 #[.int .u8 a0, .slice a1 len1 cap1, .int .u8 a2, .int .u8 a3] w fun e w' => e = .returned (.bool true) ∧ Below w.heap.size w w' := by
  obtain ⟨f1, hA1⟩ := hr1
  obtain ⟨x0, x1⟩ := bounds_u8 w0
  obtain ⟨y0, y1⟩ := bounds_u8 w2
  obtain ⟨v0, v1⟩ := bounds_u8 w3
  have HA1 := Lib.hid hA1
  have hm1 := hA1.1
  unfold maxLen at hm1
  clear hA1 w0 w2 w3
  by_cases h1 : 100 < len1
  · have d1 : decide ((100 : Int) < (len1 : Int)) = true := by simp; omega
    go_enter Try.func3, Try.ntmps3
    go_wp2_with fail
    refine (awake_any _).mono ?_
    rintro e w1 ⟨rfl, b1⟩
    go_wp2_with fail
    refine (awake_any _).mono ?_
    rintro e w2 ⟨rfl, b2⟩
    go_wp2
    go_ret
    exact ⟨rfl, next b1 b2⟩
  have d1 : decide ((100 : Int) < (len1 : Int)) = false := by simp; omega
  obtain ⟨Z, hZ⟩ : ∃ Z : Int, 1 + a0 = Z := ⟨_, rfl⟩
  obtain ⟨K, hK⟩ : ∃ K : Int, 1 + a2 % 8 = K := ⟨_, rfl⟩
  obtain ⟨F, hF⟩ : ∃ F : Int, a3 % (2 + a0) = F := ⟨_, rfl⟩
  have z1 : 1 ≤ Z := by omega
  have z2 : Z ≤ 256 := by omega
  have k1 : 1 ≤ K := by omega
  have k2 : K ≤ 8 := by omega
  have f1' : 0 ≤ F := by rw [← hF]; exact Int.emod_nonneg _ (by omega)
  have f2 : F ≤ Z := by have := Int.emod_lt_of_pos a3 (show 0 < 2 + a0 by omega); omega
  have HZ := Lib.hid hZ
  have HK := Lib.hid hK
  have HF := Lib.hid hF
  clear hZ hK hF
  go_enter Try.func3, Try.ntmps3
  go_wp2_with fail
  refine (awake_any _).mono ?_
  rintro e w1 ⟨rfl, b1⟩
  go_wp2_with fail
  rw [HZ.out]
  refine (new_ok Z w1 z1 (by omega)).mono ?_
  rintro e w2 ⟨b, rfl, h2, b2⟩
  have hrel0 : AtCall w.heap.size noX b Z len1 w (.int .i64 0) w2 := ⟨0, [], Nat.zero_le _, rfl, Lib.hid (WF.nil Z), Lib.hid (h2.lower b1.size), Lib.hid (next b1 b2)⟩
  clear h2 b1 b2
  go_wp2_with fail
  go_loopw [11] (fun u wr => AtCall w.heap.size noX b Z len1 w u wr) (fun u _ => len1 - (intOf u).toNat)
  case atStart => exact hrel0
  case round =>
    obtain ⟨t, l, ht, rfl, HW, HM, HB⟩ := hrel
    clear hrel0
    by_cases hlt : t < len1
    · obtain ⟨g, o, rfl, hg, hx⟩ := HA1.out.at_ HB.out hlt
      generalize f1 t = x at hx
      obtain ⟨xd, xa, xn⟩ := x
      have c0 : wr.cell? ⟨g, o + t * 3, none⟩ = some (.int .u8 xd) := hx.c0
      have c1 : wr.drew.cell? ⟨g, o + t * 3 + 1, none⟩ = some (.int .i64 xa) := hx.c1
      have c2 : wr.drew.cell? ⟨g, o + t * 3 + 2, none⟩ = some (.int .i64 xn) := hx.c2
      obtain ⟨xd0, xd1⟩ : 0 ≤ xd ∧ xd ≤ 255 := hx.d0
      by_cases hp : xd % 2 = 0
      · have dp : (xd % 2 == 0) = true := by simpa using hp
        obtain ⟨r, l', hR, hT⟩ := take_any HW.out (by omega) xa xn hx.n0
        have HWl := Lib.hid (hR.wf HW.out)
        have HT := Lib.hid (hT _ _ _ _ (HM.out.below (Below.refl _ wr).drew))
        clear hx hR hT hp
        go_wp2_with fail
        go_region_held3 (fun W => W.cell? ⟨g, o + t * 3 + 1, none⟩ = some (.int .i64 xa) ∧ W.cell? ⟨g, o + t * 3 + 2, none⟩ = some (.int .i64 xn))
          (first | exact ⟨c1, c2⟩ | exact ⟨e1, e2⟩)
          (first | (go_at_call 11; refine HT.out.mono ?_; rintro e w3 ⟨rfl, h3, k3⟩; have e1 := (k3.low.cell (p := ⟨g, o + t * 3 + 1, none⟩) hg).trans c1; have e2 := (k3.low.cell (p := ⟨g, o + t * 3 + 2, none⟩) hg).trans c2; have H3 := Lib.hid h3; have K3 := Lib.hid ((HB.out.trans (Below.refl _ wr).drew).trans k3.low); clear h3 k3))
        go_wp2
        go_roundw
        case rel => exact ⟨t + 1, l', by omega, by go_num, HWl, H3, K3⟩
        case measure => simp [intOf]; omega
      · have dp : (xd % 2 == 0) = false := by simpa using hp
        obtain ⟨r, l', hR, hT⟩ := free_any HW.out (by omega) xa xn hx.n0
        have HWl := Lib.hid (hR.wf HW.out)
        have HT := Lib.hid (hT _ _ _ _ (HM.out.below (Below.refl _ wr).drew))
        clear hx hR hT hp
        go_wp2_with fail
        go_region_held3 (fun W => W.cell? ⟨g, o + t * 3 + 1, none⟩ = some (.int .i64 xa) ∧ W.cell? ⟨g, o + t * 3 + 2, none⟩ = some (.int .i64 xn))
          (first | exact ⟨c1, c2⟩ | exact ⟨e1, e2⟩)
          (first | (go_at_call 12; refine HT.out.mono ?_; rintro e w3 ⟨rfl, h3, k3⟩; have e1 := (k3.low.cell (p := ⟨g, o + t * 3 + 1, none⟩) hg).trans c1; have e2 := (k3.low.cell (p := ⟨g, o + t * 3 + 2, none⟩) hg).trans c2; have H3 := Lib.hid h3; have K3 := Lib.hid ((HB.out.trans (Below.refl _ wr).drew).trans k3.low); clear h3 k3))
        go_wp2
        go_roundw
        case rel => exact ⟨t + 1, l', by omega, by go_num, HWl, H3, K3⟩
        case measure => simp [intOf]; omega
    · obtain rfl : t = len1 := by omega
      have hll := HW.out.len (by omega)
      generalize wr = wA at *
      go_wp2_with fail
      go_quiet (fail)
      have HBn := Lib.hid (below_drewN HB.out nq)
      have HMn := Lib.hid (HM.out.below (below_drewN (Below.refl _ wA) nq))
      clear HB HM
      generalize wA.drewN nq = wB at *
      rw [HK.out, HF.out]
      go_wp2_with fail
      refine (Find_ok HMn.out HW.out (by omega) ⟨by omega, by omega⟩).mono ?_
      rintro e w3 ⟨a, ok, rfl, hA, b3⟩
      have HM3 := Lib.hid (HMn.out.below b3)
      have HB3 := Lib.hid (next HBn.out b3)
      clear b3 HMn HBn
      cases ok with
      | false =>
        have HN := Lib.hid (hA.none k1 f1' f2)
        clear hA
        have hrel1 : CopyRel w.heap.size b Z l (a0 + 1) w (.int .i64 0) w3 := ⟨0, by simp; omega, rfl, HM3, HB3⟩
        go_wp2_with fail
        go_loopw [16] (fun u wr => CopyRel w.heap.size b Z l (a0 + 1) w u wr) (fun u _ => (a0 + 1 - intOf u).toNat)
        case atStart => exact hrel1
        case round =>
          obtain ⟨s, hs, rfl, HMs, HBs⟩ := hrel
          clear hrel1
          by_cases hlt2 : (s : Int) ≤ a0
          · obtain ⟨r, l', hR, hT⟩ := take_any HW.out (by omega) (s : Int) K ⟨by omega, by omega⟩
            have hr0 : (r == 0) = false := by have := hR.not (HN.out _); simpa using this
            have HT := Lib.hid hT
            clear hR hT
            go_wp2_with fail
            refine (copy_ok HMs.out (by omega)).mono ?_
            rintro e w4 ⟨b2, rfl, h4, b4⟩
            have H4 := Lib.hid h4
            have B4 := Lib.hid b4
            clear h4 b4
            go_wp2_with fail
            refine (HT.out _ _ _ _ H4.out).mono ?_
            rintro e w5 ⟨rfl, h5, k5⟩
            have B5 := Lib.hid (B4.out.trans k5.low)
            clear h5 k5
            go_wp2
            go_roundw
            case rel => exact ⟨s + 1, by omega, by go_num, Lib.hid (HMs.out.below B5.out), Lib.hid (next HBs.out B5.out)⟩
            case measure => simp [intOf]; omega
          · go_wp2
            go_ret
            exact ⟨rfl, HBs.out⟩
      | true =>
        have hfree := hA.free
        obtain ⟨q0, _, q2, _⟩ := id hfree
        obtain ⟨r, l', hR, hT⟩ := take_any HW.out (by omega) a K ⟨by omega, by omega⟩
        obtain ⟨rfl, hK'⟩ := hR.free hfree
        have HWl := Lib.hid hK'.wf
        obtain ⟨r, l'', hR2, hT2⟩ := take_any HWl.out (by omega) a K ⟨by omega, by omega⟩
        obtain ⟨rfl, rfl⟩ := hR2.used hfree.has (hK'.notfree k1)
        obtain ⟨y, hy⟩ : ∃ y, Z - sumR l = y := ⟨_, rfl⟩
        have hsum := HW.out.sum (show (0 : Int) ≤ Z by omega)
        have hsum2 := hK'.sum HW.out hfree
        have hy0 : 0 ≤ y ∧ y ≤ 256 := by omega
        obtain ⟨yl, yh⟩ := hy0
        have hy2 : Z - sumR l'' = y - K := by omega
        have HL := Lib.hid (left_ok HM3.out HW.out (by omega))
        rw [hy] at HL
        have HL2 := Lib.hid (fun W => left_ok (w := W) (B := w.heap.size) (x := noX) (b := b) (l := l'') (z := Z))
        rw [hy2] at HL2
        have hyk : (y - K != y - K) = false := by simp
        have HT := Lib.hid hT
        have HT2 := Lib.hid hT2
        have HKK := Lib.hid hK'
        clear hA hfree hR hT hR2 hT2 hy hsum hsum2 hy2 hK'
        go_wp2_with fail
        refine HL.out.mono ?_
        rintro e w4 ⟨rfl, b4⟩
        have H4 := Lib.hid (HM3.out.below b4)
        have B4 := Lib.hid (next HB3.out b4)
        clear b4
        go_wp2_with fail
        refine (HT.out _ _ _ _ H4.out).mono ?_
        rintro e w5 ⟨rfl, h5, k5⟩
        have H5 := Lib.hid h5
        have B5 := Lib.hid (B4.out.trans k5.low)
        clear h5 k5
        go_wp2_with fail
        refine (HL2.out _ H5.out HWl.out (by omega)).mono ?_
        rintro e w6 ⟨rfl, b6⟩
        have H6 := Lib.hid (H5.out.below b6)
        have B6 := Lib.hid (next B5.out b6)
        clear b6
        go_wp2_with fail
        refine (HT2.out _ _ _ _ H6.out).mono ?_
        rintro e w7 ⟨rfl, h7, k7⟩
        have H7 := Lib.hid h7
        have B7 := Lib.hid (B6.out.trans k7.low)
        clear h7 k7
        go_wp2_with fail
        refine (Find_ok H7.out HWl.out (by omega) ⟨by omega, by omega⟩).mono ?_
        rintro e w8 ⟨a', is, rfl, hA2, b8⟩
        have B8 := Lib.hid (next B7.out b8)
        cases is with
        | false =>
          clear hA2 b8
          go_wp2
          go_ret
          exact ⟨rfl, B8.out⟩
        | true =>
          have hbe := HKK.out.beside hA2.free
          obtain ⟨q3, _, q5, _⟩ := hA2.free
          clear hA2 b8
          by_cases hq : a + K ≤ a'
          · have dq : decide (a + K ≤ a') = true := decide_eq_true hq
            clear hbe
            go_wp2
            go_ret
            exact ⟨rfl, B8.out⟩
          · have dq : decide (a + K ≤ a') = false := decide_eq_false hq
            have hq2 : a' + K ≤ a := by omega
            have dq2 : decide (a' + K ≤ a) = true := decide_eq_true hq2
            clear hbe
            go_wp2
            go_ret
            exact ⟨rfl, B8.out⟩
end Go.Proofs.Ytoiiaacjpobaeaa
