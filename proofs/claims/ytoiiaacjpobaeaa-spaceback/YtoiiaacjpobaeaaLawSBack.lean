/-
  The walk of polderlaw11.SpaceBack.
-/
import Derived.Test.YtoiiaacjpobaeaaSl
namespace Go.Proofs.Ytoiiaacjpobaeaa
set_option maxRecDepth 100000
open Go.RowKit

set_option maxRecDepth 100000 in
set_option maxHeartbeats 4000000 in
theorem walk_SpaceBack (a0 : Option Addr) (len0 cap0 : Nat) (x : ActV) (w : World) (hr0 : ∃ f, Acts w a0 len0 f) (hxa : I64 x.a) (hxn : I64 x.n) :
    Calls Try.prog 8 #[.slice a0 len0 cap0, .agg #[.int .u8 x.d, .int .i64 x.a, .int .i64 x.n]] w fun e w' => e = .returned (.bool true) ∧ Below w.heap.size w w' := by
  obtain ⟨f0, hA0⟩ := hr0
  obtain ⟨yd, ya, yn⟩ := x
  have HA0 := Lib.hid hA0
  have hm0 := hA0.1
  unfold maxLen at hm0
  have HYA : Hid (I64 ya) := Lib.hid hxa
  have HYN : Hid (I64 yn) := Lib.hid hxn
  clear hA0 hxa hxn
  have k1 : (w.alloc (.cells #[.int .u8 yd, .int .i64 ya, .int .i64 yn] 29)).cell? ⟨w.heap.size, 1, none⟩ = some (.int .i64 ya) := by simp
  have k2 : (w.alloc (.cells #[.int .u8 yd, .int .i64 ya, .int .i64 yn] 29)).cell? ⟨w.heap.size, 2, none⟩ = some (.int .i64 yn) := by simp
  have HBB := Lib.hid (boxed w (.cells #[.int .u8 yd, .int .i64 ya, .int .i64 yn] 29))
  have K1 := Lib.hid k1
  have K2 := Lib.hid k2
  clear k1 k2
  have d0 : (100 < len0) ∨ ¬ (100 < len0) := Decidable.em _
  rcases d0 with h0 | h0
  · have d0 : decide ((100 : Int) < (len0 : Int)) = true := by simp; omega
    go_enter Try.func8, Try.ntmps8
    go_wp2_with fail
    refine (awake_any _).mono ?_
    rintro e w1 ⟨rfl, b1⟩
    go_wp2_with fail
    refine (awake_any _).mono ?_
    rintro e w2 ⟨rfl, b2⟩
    go_wp2
    go_ret
    exact ⟨rfl, next HBB.out (next b1 b2)⟩
  have d0 : decide ((100 : Int) < (len0 : Int)) = false := by simp; omega
  go_enter Try.func8, Try.ntmps8
  go_wp2_with fail
  generalize w.alloc (.cells #[.int .u8 yd, .int .i64 ya, .int .i64 yn] 29) = wb at *
  have hbx : w.heap.size < wb.heap.size := World.block_lt_of_cell? wb _ K1.out
  have hbw : w.heap.size ≤ wb.heap.size := HBB.out.size
  generalize hbx' : w.heap.size = bx at hbx K1 K2 ⊢
  have HBX := Lib.hid hbx'
  clear hbx'
  refine (awake_any _).mono ?_
  rintro e w1 ⟨rfl, b1⟩
  go_wp2_with fail
  refine (new_ok 60 w1 (by omega) (by omega)).mono ?_
  rintro e w2 ⟨b, rfl, h2, b2⟩
  have hrel0 : AtCall wb.heap.size noX b 60 len0 wb (.int .i64 0) w2 := ⟨0, [], Nat.zero_le _, rfl, Lib.hid (WF.nil 60), Lib.hid (h2.lower b1.size), Lib.hid (next b1 b2)⟩
  clear h2 b1 b2
  go_wp2_with fail
  go_loopw [7] (fun u wr => AtCall wb.heap.size noX b 60 len0 wb u wr) (fun u _ => len0 - (intOf u).toNat)
  case atStart => exact hrel0
  case round =>
    obtain ⟨t, l, ht, rfl, HW, HM, HB⟩ := hrel
    clear hrel0
    by_cases hlt : t < len0
    · obtain ⟨g, o, rfl, hg, hx⟩ := HA0.out.at_ (next HBB.out HB.out) hlt
      have hg2 : g < wb.heap.size := by omega
      generalize f0 t = x at hx
      obtain ⟨xd, xa, xn⟩ := x
      have c1 : wr.drew.cell? ⟨g, o + t * 3 + 1, none⟩ = some (.int .i64 xa) := hx.c1
      have c2 : wr.drew.cell? ⟨g, o + t * 3 + 2, none⟩ = some (.int .i64 xn) := hx.c2
      obtain ⟨r, l', hR, hT⟩ := take_any HW.out (by omega) xa xn hx.n0
      have HWl := Lib.hid (hR.wf HW.out)
      have HT := Lib.hid (hT _ _ _ _ (HM.out.below (Below.refl _ wr).drew))
      clear hx hR hT
      go_wp2_with fail
      go_region_held3 (fun W => W.cell? ⟨g, o + t * 3 + 1, none⟩ = some (.int .i64 xa) ∧ W.cell? ⟨g, o + t * 3 + 2, none⟩ = some (.int .i64 xn))
        (first | exact ⟨c1, c2⟩ | exact ⟨e1, e2⟩)
        (first | (go_at_call 11; refine HT.out.mono ?_; rintro e w3 ⟨rfl, h3, k3⟩; have e1 := (k3.low.cell (p := ⟨g, o + t * 3 + 1, none⟩) hg2).trans c1; have e2 := (k3.low.cell (p := ⟨g, o + t * 3 + 2, none⟩) hg2).trans c2; have H3 := Lib.hid h3; have K3 := Lib.hid ((HB.out.trans (Below.refl _ wr).drew).trans k3.low); clear h3 k3))
      go_wp2
      go_roundw
      case rel => exact ⟨t + 1, l', by omega, by go_num, HWl, H3, K3⟩
      case measure => simp [intOf]; omega
    · obtain rfl : t = len0 := by omega
      have hll := HW.out.len (by omega)
      generalize wr = wA at *
      go_wp2_with fail
      refine (runs_ok HM.out (by omega)).mono ?_
      rintro e w3 ⟨ra, n, rc, rfl, hl, hO, b3⟩
      have hn6 : n ≤ 65536 := by omega
      have HN := Lib.hid hl
      have H3 := Lib.hid (HM.out.beside b3 hO (Nat.le_refl _))
      have R3 := Lib.hid hO.r
      have B3 := Lib.hid (early HB.out HB.out.size b3)
      clear hl hO b3
      obtain ⟨r1, l1, hR1, hT1⟩ := take_any HW.out (by omega) ya yn HYN.out
      have HT1 := Lib.hid hT1
      have e1 := (B3.out.cell (p := ⟨bx, 1, none⟩) hbx).trans K1.out
      have e2 := (B3.out.cell (p := ⟨bx, 2, none⟩) hbx).trans K2.out
      by_cases hf : FreeR 60 l ya yn
      · obtain ⟨rfl, hk⟩ := hR1.free hf
        obtain ⟨r2, l2, hR2, hT2⟩ := free_any hk.wf (by omega) ya yn HYN.out
        obtain ⟨rfl, hk2⟩ := hR2.full hf.has hk.full
        obtain rfl := hk.back hk2 HW.out hf
        have HT2 := Lib.hid hT2
        clear hf hk hk2 hR1 hR2 hT1 hT2
        go_wp2_with fail
        refine (HT1.out _ _ _ _ H3.out).mono ?_
        rintro e w4 ⟨rfl, h4, k4⟩
        have H4 := Lib.hid h4
        have R4 := Lib.hid (R3.out.keep k4)
        have B4 := Lib.hid (B3.out.trans k4.low)
        clear h4 k4 e1 e2
        have e1 := (B4.out.cell (p := ⟨bx, 1, none⟩) hbx).trans K1.out
        have e2 := (B4.out.cell (p := ⟨bx, 2, none⟩) hbx).trans K2.out
        go_wp2_with fail
        refine (HT2.out _ _ _ _ H4.out).mono ?_
        rintro e w5 ⟨rfl, h5, k5⟩
        have H5 := Lib.hid h5
        have R5 := Lib.hid (R4.out.keep k5)
        have B5 := Lib.hid (B4.out.trans k5.low)
        clear h5 k5 e1 e2
        go_wp2_with fail
        refine (runs_ok H5.out (by omega)).mono ?_
        rintro e w6 ⟨sa, n', sc, rfl, hl, hO, b6⟩
        obtain rfl : n' = n := by have := HN.out; omega
        have hrel1 : SameRel wb.heap.size l2 ra sa n' rc sc wb (.int .i64 0) w6 := ⟨0, Nat.zero_le _, rfl, Lib.hid (R5.out.below b6), Lib.hid hO.r, Lib.hid (early B5.out B5.out.size b6)⟩
        have hnn : ((n' : Int) == (n' : Int)) = true := by simp
        clear hl hO b6
        go_wp2_with fail
        go_loopw [10] (fun u wq => SameRel wb.heap.size l2 ra sa n' rc sc wb u wq) (fun u _ => n' - (intOf u).toNat)
        case atStart => exact hrel1
        case round =>
          obtain ⟨k, hk, rfl, HR1, HR2, HB6⟩ := hrel
          clear hrel1
          by_cases hkn : k < n'
          · have hkl : k < l2.length := by rw [HN.out]; exact hkn
            rcases HR1.out with ⟨e, _⟩ | ⟨g1, n1, c1, e, _, _, _, hRow1⟩
            · cases e; omega
            cases e
            rcases HR2.out with ⟨e, _⟩ | ⟨g2, n2, c2, e, _, _, _, hRow2⟩
            · cases e; omega
            cases e
            obtain ⟨r0, r1⟩ := hRow1.is k hkl
            obtain ⟨s0, s1⟩ := hRow2.is k hkl
            generalize l2[k].1 = rx at *
            generalize l2[k].2 = ry at *
            clear hRow1 hRow2 hkl
            go_wp2_with fail
            go_quiet (fail)
            have HB7 := Lib.hid (below_drewN HB6.out nq)
            have HR3 := Lib.hid (HR1.out.below (below_drewN (Below.refl _ wr) nq))
            have HR4 := Lib.hid (HR2.out.below (below_drewN (Below.refl _ wr) nq))
            go_wp2_with fail
            go_roundw
            case rel => exact ⟨k + 1, by omega, by go_num, HR3, HR4, HB7⟩
            case measure => simp [intOf]; omega
          · obtain rfl : k = n' := by omega
            go_wp2
            go_ret
            exact ⟨rfl, next HBB.out HB6.out⟩
      · have hr1 := hR1.not hf
        have hl1 : l1 = l := by
          rcases hR1 with ⟨_, _, e⟩ | ⟨_, _, _, e⟩ | ⟨e, _⟩
          · exact e
          · exact e
          · exact absurd e hr1
        subst hl1
        have dr1 : (r1 != 0) = true := by simpa using hr1
        obtain ⟨r2, l2, hR2, hT2⟩ := free_any HW.out (by omega) ya yn HYN.out
        have HT2 := Lib.hid hT2
        have HH := Lib.hid hR2
        clear hT1 hT2 hR1 hr1 hf hR2
        go_wp2_with fail
        refine (HT1.out _ _ _ _ H3.out).mono ?_
        rintro e w4 ⟨rfl, h4, k4⟩
        have H4 := Lib.hid h4
        have R4 := Lib.hid (R3.out.keep k4)
        have B4 := Lib.hid (B3.out.trans k4.low)
        clear h4 k4 e1 e2
        have e1 := (B4.out.cell (p := ⟨bx, 1, none⟩) hbx).trans K1.out
        have e2 := (B4.out.cell (p := ⟨bx, 2, none⟩) hbx).trans K2.out
        by_cases hr2 : r2 = 0
        · obtain ⟨rfl, hh, hf, hk⟩ : r2 = 0 ∧ hasB 60 ya yn = true ∧ FullR l1 ya yn ∧ Freed 60 l1 ya yn l2 := by
            rcases HH.out with ⟨e, _⟩ | ⟨e, _⟩ | h
            · omega
            · omega
            · exact h
          obtain ⟨r3, l3, hR3, hT3⟩ := take_any hk.wf (by omega) ya yn HYN.out
          obtain ⟨rfl, hk3⟩ := hR3.free (hk.free hh)
          obtain rfl := hk.back hk3 HW.out hf
          have HT3 := Lib.hid hT3
          clear hh hf hk hk3 hR3 hT3 hr2
          go_wp2_with fail
          refine (HT2.out _ _ _ _ H4.out).mono ?_
          rintro e w4' ⟨rfl, h5, k5⟩
          have H4' := Lib.hid h5
          have R4' := Lib.hid (R4.out.keep k5)
          have B4' := Lib.hid (B4.out.trans k5.low)
          clear h5 k5 e1 e2
          have e1 := (B4'.out.cell (p := ⟨bx, 1, none⟩) hbx).trans K1.out
          have e2 := (B4'.out.cell (p := ⟨bx, 2, none⟩) hbx).trans K2.out
          go_wp2_with fail
          refine (HT3.out _ _ _ _ H4'.out).mono ?_
          rintro e w5 ⟨rfl, h5, k5⟩
          have H5 := Lib.hid h5
          have R5 := Lib.hid (R4'.out.keep k5)
          have B5 := Lib.hid (B4'.out.trans k5.low)
          clear h5 k5 e1 e2
          go_wp2_with fail
          refine (runs_ok H5.out (by omega)).mono ?_
          rintro e w6 ⟨sa, n', sc, rfl, hl, hO, b6⟩
          obtain rfl : n' = n := by have := HN.out; omega
          have hrel1 : SameRel wb.heap.size l3 ra sa n' rc sc wb (.int .i64 0) w6 := ⟨0, Nat.zero_le _, rfl, Lib.hid (R5.out.below b6), Lib.hid hO.r, Lib.hid (early B5.out B5.out.size b6)⟩
          have hnn : ((n' : Int) == (n' : Int)) = true := by simp
          clear hl hO b6
          go_wp2_with fail
          go_loopw [10] (fun u wq => SameRel wb.heap.size l3 ra sa n' rc sc wb u wq) (fun u _ => n' - (intOf u).toNat)
          case atStart => exact hrel1
          case round =>
            obtain ⟨k, hk, rfl, HR1, HR2, HB6⟩ := hrel
            clear hrel1
            by_cases hkn : k < n'
            · have hkl : k < l3.length := by rw [HN.out]; exact hkn
              rcases HR1.out with ⟨e, _⟩ | ⟨g1, n1, c1, e, _, _, _, hRow1⟩
              · cases e; omega
              cases e
              rcases HR2.out with ⟨e, _⟩ | ⟨g2, n2, c2, e, _, _, _, hRow2⟩
              · cases e; omega
              cases e
              obtain ⟨r0, r1⟩ := hRow1.is k hkl
              obtain ⟨s0, s1⟩ := hRow2.is k hkl
              generalize l3[k].1 = rx at *
              generalize l3[k].2 = ry at *
              clear hRow1 hRow2 hkl
              go_wp2_with fail
              go_quiet (fail)
              have HB7 := Lib.hid (below_drewN HB6.out nq)
              have HR3 := Lib.hid (HR1.out.below (below_drewN (Below.refl _ wr) nq))
              have HR4 := Lib.hid (HR2.out.below (below_drewN (Below.refl _ wr) nq))
              go_wp2_with fail
              go_roundw
              case rel => exact ⟨k + 1, by omega, by go_num, HR3, HR4, HB7⟩
              case measure => simp [intOf]; omega
            · obtain rfl : k = n' := by omega
              go_wp2
              go_ret
              exact ⟨rfl, next HBB.out HB6.out⟩
        · have dr2 : (r2 != 0) = true := by simpa using hr2
          have hl2 : l2 = l1 := by
            rcases HH.out with ⟨_, _, e⟩ | ⟨_, _, _, e⟩ | ⟨e, _⟩
            · exact e
            · exact e
            · exact absurd e hr2
          subst hl2
          go_wp2_with fail
          refine (HT2.out _ _ _ _ H4.out).mono ?_
          rintro e w5 ⟨rfl, h5, k5⟩
          have H5 := Lib.hid h5
          have B5 := Lib.hid (B4.out.trans k5.low)
          clear h5 k5 e1 e2 hr2
          go_wp2_with fail
          refine (runs_ok H5.out (by omega)).mono ?_
          rintro e w6 ⟨sa, n', sc, rfl, hl, hO, b6⟩
          obtain rfl : n' = n := by have := HN.out; omega
          have hnn : ((n' : Int) == (n' : Int)) = true := by simp
          have B6 := Lib.hid (early B5.out B5.out.size b6)
          clear hl hO b6
          go_wp2
          go_ret
          exact ⟨rfl, next HBB.out B6.out⟩
end Go.Proofs.Ytoiiaacjpobaeaa
