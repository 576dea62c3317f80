/-
  The walk of polderlaw11.SpaceRuns.
-/
import Derived.Test.YtoiiaacjpobaeaaSj
import Derived.Deep.DeepCutAuto
import Derived.Deep.CutBlock
namespace Go.Proofs.Ytoiiaacjpobaeaa
set_option maxRecDepth 100000
open Go.RowKit

/-- Where the calls have come to. -/
def AtCall (B : Nat) (x : Nat → Prop) (b : Nat) (z : Int) (n : Nat) (W : World) (u : Value) (wr : World) : Prop :=
  ∃ (t : Nat) (l : List (Int × Int)), t ≤ n ∧ u = .int .i64 (t : Int) ∧ Hid (WF z l) ∧ Hid (MapIn B x wr b z l) ∧ Hid (Below B W wr)
/-- Behind a call: what is left. -/
def CallRel (B : Nat) (x : Nat → Prop) (b : Nat) (z : Int) (W : World) (u : Value) (wc : World) : Prop :=
  ∃ (l : List (Int × Int)) (y : Int), u = .int .i64 y ∧ Hid (WF z l) ∧ Hid (y = z - sumR l) ∧ Hid (MapIn B x wc b z l) ∧ Hid (Below B W wc)
/-- Where a run ends. -/
def endTo (l : List (Int × Int)) (k : Nat) : Int := if k = 0 then -1 else (l.getD (k - 1) (0, 0)).1 + (l.getD (k - 1) (0, 0)).2
theorem endTo_succ {l : List (Int × Int)} {k : Nat} (hk : k < l.length) : endTo l (k + 1) = l[k].1 + l[k].2 := by
  unfold endTo
  rw [if_neg (by omega), Nat.add_sub_cancel, List.getD_eq_getElem?_getD, List.getElem?_eq_getElem hk]
  rfl
theorem endTo_lt {z : Int} {l : List (Int × Int)} (hw : WF z l) {k : Nat} (hk : k < l.length) : endTo l k < l[k].1 ∧ -1 ≤ endTo l k := by
  have h0 := hw.ok _ (List.getElem_mem hk)
  cases k with
  | zero => unfold endTo; rw [if_pos rfl]; omega
  | succ k =>
    rw [endTo_succ (by omega)]
    have := List.pairwise_iff_getElem.1 hw.ap k (k + 1) (by omega) hk (by omega)
    have h1 := hw.ok _ (List.getElem_mem (show k < l.length by omega))
    omega
theorem endTo_le {z : Int} {l : List (Int × Int)} (hw : WF z l) (hz : 0 ≤ z) : endTo l l.length ≤ z ∧ -1 ≤ endTo l l.length := by
  cases h : l.length with
  | zero => unfold endTo; rw [if_pos rfl]; omega
  | succ k =>
    rw [endTo_succ (by omega)]
    have := hw.ok _ (List.getElem_mem (show k < l.length by omega))
    omega
/-- Where the runs have come to. -/
def SumRel (B : Nat) (x : Nat → Prop) (b : Nat) (z : Int) (l : List (Int × Int)) (a : Option Addr) (n c : Nat) (W : World) (s e u : Value) (wr : World) : Prop :=
  ∃ (k : Nat) (y d : Int), k ≤ n ∧ s = .int .i64 y ∧ e = .int .i64 d ∧ u = .int .i64 (k : Int) ∧ Hid (y = sumR (l.take k)) ∧ Hid (d = endTo l k) ∧ Hid (MapIn B x wr b z l) ∧ Hid (RunsV wr (.slice a n c) l) ∧ Hid (Below B W wr)

set_option maxRecDepth 100000 in
set_option maxHeartbeats 4000000 in
theorem walk_SpaceRuns (z : Int) (a1 : Option Addr) (len1 cap1 : Nat) (w : World) (w0 : (Lit.int .i64 z).wf = true) (hr1 : ∃ f, Acts w a1 len1 f) :
    Calls Try.prog 4 #[.int .i64 z, .slice a1 len1 cap1] w fun e w' => e = .returned (.bool true) ∧ Below w.heap.size w w' := by
  obtain ⟨f1, hA1⟩ := hr1
  obtain ⟨x0, x1⟩ := bounds_i64 w0
  have HA1 := Lib.hid hA1
  have hm1 := hA1.1
  unfold maxLen at hm1
  clear hA1 w0
  by_cases h1 : 100 < len1
  · have d1 : decide ((100 : Int) < (len1 : Int)) = true := by simp; omega
    go_enter Try.func4, Try.ntmps4
    go_wp2_with fail
    refine (awake_any _).mono ?_
    rintro e w1 ⟨rfl, b1⟩
    go_wp2_with fail
    refine (awake_any _).mono ?_
    rintro e w2 ⟨rfl, b2⟩
    go_wp2
    go_ret
    exact ⟨rfl, next b1 b2⟩
  have d1 : decide ((100 : Int) < (len1 : Int)) = false := by simp; omega
  by_cases hz : z < 1 ∨ 65536 < z
  · have HZ := Lib.hid (fun W => new_no z W hz)
    clear hz
    go_enter Try.func4, Try.ntmps4
    go_wp2_with fail
    refine (awake_any _).mono ?_
    rintro e w1 ⟨rfl, b1⟩
    go_wp2_with fail
    refine (HZ.out w1).mono ?_
    rintro e w2 ⟨rfl, rfl⟩
    go_wp2
    go_ret
    exact ⟨rfl, b1⟩
  have z1 : 1 ≤ z := by omega
  have z2 : z ≤ 65536 := by omega
  clear hz
  go_enter Try.func4, Try.ntmps4
  go_wp2_with fail
  refine (awake_any _).mono ?_
  rintro e w1 ⟨rfl, b1⟩
  go_wp2_with fail
  refine (new_ok z w1 z1 z2).mono ?_
  rintro e w2 ⟨b, rfl, h2, b2⟩
  have hrel0 : AtCall w.heap.size noX b z len1 w (.int .i64 0) w2 := ⟨0, [], Nat.zero_le _, rfl, Lib.hid (WF.nil z), Lib.hid (h2.lower b1.size), Lib.hid (next b1 b2)⟩
  clear h2 b1 b2
  go_wp2_with fail
  go_loopw [7] (fun u wr => AtCall w.heap.size noX b z len1 w u wr) (fun u _ => len1 - (intOf u).toNat)
  case atStart => exact hrel0
  case round =>
    obtain ⟨t, l, ht, rfl, HW, HM, HB⟩ := hrel
    clear hrel0
    by_cases hlt : t < len1
    · obtain ⟨g, o, rfl, hg, hx⟩ := HA1.out.at_ HB.out hlt
      generalize f1 t = x at hx
      obtain ⟨xd, xa, xn⟩ := x
      have HX := Lib.hid hx
      obtain ⟨xd0, xd1⟩ : 0 ≤ xd ∧ xd ≤ 255 := hx.d0
      obtain ⟨xn0, xn1⟩ : I64 xn := hx.n0
      obtain ⟨y, hy⟩ : ∃ y, z - sumR l = y := ⟨_, rfl⟩
      have hsum := HW.out.sum (show (0 : Int) ≤ z by omega)
      have y0 : 0 ≤ y := by omega
      have y1 : y ≤ z := by omega
      have HL := Lib.hid (left_ok HM.out HW.out (by omega))
      rw [hy] at HL
      have HY := Lib.hid hy
      clear hx hsum hy
      go_wp2_with fail
      refine HL.out.mono ?_
      rintro e w3 ⟨rfl, b3⟩
      have H3 := Lib.hid (HM.out.below b3)
      have B3 := Lib.hid (next HB.out b3)
      have X3 := Lib.hid (HX.out.below b3)
      clear b3
      have c0 := X3.out.c0
      go_upto_if 46 with (fail)
      go_cut [9] from 46 to 86 (fun s9 wc => CallRel w.heap.size noX b z w s9 wc)
      case first =>
        by_cases hp : xd % 2 = 1
        · have dp : (xd % 2 == 1) = true := by simpa using hp
          obtain ⟨r, l', hR, hT⟩ := free_any HW.out (by omega) xa xn ⟨xn0, xn1⟩
          have HWl := Lib.hid (hR.wf HW.out)
          have HT := Lib.hid (hT _ _ _ _ (H3.out.below (Below.refl _ w3).drew))
          have c1 : w3.drew.cell? ⟨g, o + t * 3 + 1, none⟩ = some (.int .i64 xa) := X3.out.c1
          have c2 : w3.drew.cell? ⟨g, o + t * 3 + 2, none⟩ = some (.int .i64 xn) := X3.out.c2
          have HSUM : Hid ((r = 0 ∧ 1 ≤ xn ∧ xn ≤ z ∧ z - sumR l' = y + xn ∧ 0 ≤ z - sumR l' ∧ z - sumR l' ≤ z) ∨ (¬ r = 0 ∧ z - sumR l' = y)) := Lib.hid (by
            have hy := HY.out
            have hs := HWl.out.sum (show (0 : Int) ≤ z by omega)
            rcases hR with ⟨e, _, rfl⟩ | ⟨e, _, _, rfl⟩ | h
            · exact .inr ⟨by omega, hy⟩
            · exact .inr ⟨by omega, hy⟩
            · obtain ⟨e, hh, hf, hk⟩ := h
              have := hk.sum HW.out hh hf
              obtain ⟨q1, q0, q2⟩ := hasB_true hh
              exact .inl ⟨e, q1, by omega, by omega, by omega, by omega⟩)
          clear hR hT hp
          rcases HSUM.out with ⟨hr, n0, n1, hs, s0, s1⟩ | ⟨hr, hs⟩
          · have dr : (r == 0) = true := by simpa using hr
            have HS := Lib.hid hs
            have yb : 0 ≤ y + xn ∧ y + xn ≤ z := by omega
            obtain ⟨yb0, yb1⟩ := yb
            clear hs hr HSUM
            go_wp2_with fail
            go_region_held3 (fun W => W.cell? ⟨g, o + t * 3 + 1, none⟩ = some (.int .i64 xa) ∧ W.cell? ⟨g, o + t * 3 + 2, none⟩ = some (.int .i64 xn))
              (first | exact ⟨c1, c2⟩ | exact ⟨e1, e2⟩)
              (first | (go_at_call 12; refine HT.out.mono ?_; rintro e w4 ⟨rfl, h4, k4⟩; have e1 := (k4.low.cell (p := ⟨g, o + t * 3 + 1, none⟩) hg).trans c1; have e2 := (k4.low.cell (p := ⟨g, o + t * 3 + 2, none⟩) hg).trans c2; have H4 := Lib.hid h4; have K4 := Lib.hid ((B3.out.trans (Below.refl _ w3).drew).trans k4.low); clear h4 k4))
            go_wp2_with fail
            go_meet
            exact ⟨l', _, rfl, HWl, Lib.hid HS.out.symm, H4, K4⟩
          · have dr : (r == 0) = false := by simpa using hr
            have HS := Lib.hid hs
            clear hs hr HSUM
            go_wp2_with fail
            go_region_held3 (fun W => W.cell? ⟨g, o + t * 3 + 1, none⟩ = some (.int .i64 xa) ∧ W.cell? ⟨g, o + t * 3 + 2, none⟩ = some (.int .i64 xn))
              (first | exact ⟨c1, c2⟩ | exact ⟨e1, e2⟩)
              (first | (go_at_call 12; refine HT.out.mono ?_; rintro e w4 ⟨rfl, h4, k4⟩; have e1 := (k4.low.cell (p := ⟨g, o + t * 3 + 1, none⟩) hg).trans c1; have e2 := (k4.low.cell (p := ⟨g, o + t * 3 + 2, none⟩) hg).trans c2; have H4 := Lib.hid h4; have K4 := Lib.hid ((B3.out.trans (Below.refl _ w3).drew).trans k4.low); clear h4 k4))
            go_wp2_with fail
            go_meet
            exact ⟨l', _, rfl, HWl, Lib.hid HS.out.symm, H4, K4⟩
        · have dp : (xd % 2 == 1) = false := by simpa using hp
          obtain ⟨r, l', hR, hT⟩ := take_any HW.out (by omega) xa xn ⟨xn0, xn1⟩
          have HWl := Lib.hid (hR.wf HW.out)
          have HT := Lib.hid (hT _ _ _ _ (H3.out.below (Below.refl _ w3).drew))
          have c1 : w3.drew.cell? ⟨g, o + t * 3 + 1, none⟩ = some (.int .i64 xa) := X3.out.c1
          have c2 : w3.drew.cell? ⟨g, o + t * 3 + 2, none⟩ = some (.int .i64 xn) := X3.out.c2
          have HSUM : Hid ((r = 0 ∧ 1 ≤ xn ∧ xn ≤ z ∧ z - sumR l' = y - xn ∧ 0 ≤ z - sumR l' ∧ z - sumR l' ≤ z) ∨ (¬ r = 0 ∧ z - sumR l' = y)) := Lib.hid (by
            have hy := HY.out
            have hs := HWl.out.sum (show (0 : Int) ≤ z by omega)
            rcases hR with ⟨e, _, rfl⟩ | ⟨e, _, _, rfl⟩ | h
            · exact .inr ⟨by omega, hy⟩
            · exact .inr ⟨by omega, hy⟩
            · obtain ⟨e, hf, hk⟩ := h
              have := hk.sum HW.out hf
              obtain ⟨q0, q1, q2, _⟩ := hf
              exact .inl ⟨e, q1, by omega, by omega, by omega, by omega⟩)
          clear hR hT hp
          rcases HSUM.out with ⟨hr, n0, n1, hs, s0, s1⟩ | ⟨hr, hs⟩
          · have dr : (r == 0) = true := by simpa using hr
            have HS := Lib.hid hs
            have yb : 0 ≤ y - xn ∧ y - xn ≤ z := by omega
            obtain ⟨yb0, yb1⟩ := yb
            clear hs hr HSUM
            go_wp2_with fail
            go_region_held3 (fun W => W.cell? ⟨g, o + t * 3 + 1, none⟩ = some (.int .i64 xa) ∧ W.cell? ⟨g, o + t * 3 + 2, none⟩ = some (.int .i64 xn))
              (first | exact ⟨c1, c2⟩ | exact ⟨e1, e2⟩)
              (first | (go_at_call 11; refine HT.out.mono ?_; rintro e w4 ⟨rfl, h4, k4⟩; have e1 := (k4.low.cell (p := ⟨g, o + t * 3 + 1, none⟩) hg).trans c1; have e2 := (k4.low.cell (p := ⟨g, o + t * 3 + 2, none⟩) hg).trans c2; have H4 := Lib.hid h4; have K4 := Lib.hid ((B3.out.trans (Below.refl _ w3).drew).trans k4.low); clear h4 k4))
            go_wp2_with fail
            go_meet
            exact ⟨l', _, rfl, HWl, Lib.hid HS.out.symm, H4, K4⟩
          · have dr : (r == 0) = false := by simpa using hr
            have HS := Lib.hid hs
            clear hs hr HSUM
            go_wp2_with fail
            go_region_held3 (fun W => W.cell? ⟨g, o + t * 3 + 1, none⟩ = some (.int .i64 xa) ∧ W.cell? ⟨g, o + t * 3 + 2, none⟩ = some (.int .i64 xn))
              (first | exact ⟨c1, c2⟩ | exact ⟨e1, e2⟩)
              (first | (go_at_call 11; refine HT.out.mono ?_; rintro e w4 ⟨rfl, h4, k4⟩; have e1 := (k4.low.cell (p := ⟨g, o + t * 3 + 1, none⟩) hg).trans c1; have e2 := (k4.low.cell (p := ⟨g, o + t * 3 + 2, none⟩) hg).trans c2; have H4 := Lib.hid h4; have K4 := Lib.hid ((B3.out.trans (Below.refl _ w3).drew).trans k4.low); clear h4 k4))
            go_wp2_with fail
            go_meet
            exact ⟨l', _, rfl, HWl, Lib.hid HS.out.symm, H4, K4⟩
      case rest =>
        obtain ⟨l', y', rfl, HW', HY', HM', HB'⟩ := hcut
        have hll := HW'.out.len (by omega)
        have HL' := Lib.hid (left_ok HM'.out HW'.out (by omega))
        rw [← HY'.out] at HL'
        have hsum := HW'.out.sum (show (0 : Int) ≤ z by omega)
        have y2 : 0 ≤ y' ∧ y' ≤ z := by have := HY'.out; omega
        obtain ⟨y2, y3⟩ := y2
        have hyy : (y' != y') = false := by simp
        have hzz : (z != z) = false := by simp
        clear hsum c0
        go_wp2_with fail
        refine HL'.out.mono ?_
        rintro e w5 ⟨rfl, b5⟩
        have H5 := Lib.hid (HM'.out.below b5)
        have B5 := Lib.hid (next HB'.out b5)
        clear b5
        go_wp2_with fail
        refine (runs_ok H5.out (by omega)).mono ?_
        rintro e w6 ⟨ra, n, rc, rfl, hl, hO, b6⟩
        have hn6 : n ≤ 65536 := by omega
        have hrel1 : SumRel w.heap.size noX b z l' ra n rc w (.int .i64 0) (.int .i64 (-1)) (.int .i64 0) w6 := ⟨0, 0, -1, Nat.zero_le _, rfl, rfl, rfl, Lib.hid rfl, Lib.hid rfl, Lib.hid (H5.out.below b6), Lib.hid hO.r, Lib.hid (next B5.out b6)⟩
        have HN := Lib.hid hl
        clear hl hO b6 hll
        generalize wr = wA at *
        go_wp2_with fail
        go_loopw [11, 12, 13] (fun s e u wq => SumRel w.heap.size noX b z l' ra n rc w s e u wq) (fun _ _ u _ => n - (intOf u).toNat)
        case atStart => exact hrel1
        case round =>
          obtain ⟨k, y4, d4, hk, rfl, rfl, rfl, HY4, HD4, HM4, HR4, HB4⟩ := hrel
          clear hrel1
          by_cases hkn : k < n
          · have hkl : k < l'.length := by rw [HN.out]; exact hkn
            have hlt4 := endTo_lt HW'.out hkl
            rw [← HD4.out] at hlt4
            obtain ⟨q0, q1⟩ := hlt4
            have hs4 := HW'.out.sum_take (show (0 : Int) ≤ z by omega) k
            rw [← HY4.out] at hs4
            obtain ⟨q2, q3⟩ := hs4
            have hse := endTo_succ hkl
            have hst := sumR_take hkl
            obtain ⟨o0, o1, o2⟩ := HW'.out.ok _ (List.getElem_mem hkl)
            rcases HR4.out with ⟨e, _⟩ | ⟨g2, n', c', e, _, _, _, hRow⟩
            · cases e; omega
            · cases e
              obtain ⟨r0, r1⟩ := hRow.is k hkl
              have HSE := Lib.hid hse
              have HST := Lib.hid hst
              generalize l'[k].1 = rx at *
              generalize l'[k].2 = ry at *
              have dd1 : decide (rx ≤ d4) = false := decide_eq_false (by omega)
              have dd2 : decide (ry < 1) = false := decide_eq_false (by omega)
              have i1 : IntKind.i64.wrap (rx + ry) = rx + ry := by rw [IntKind.wrap_i64]; omega
              clear hse hst hRow hkl
              go_wp2_with fail
              go_quiet (fail)
              have HB5 := Lib.hid (below_drewN HB4.out nq)
              have HM5 := Lib.hid (HM4.out.below (below_drewN (Below.refl _ wr) nq))
              have HR5 := Lib.hid (HR4.out.below (below_drewN (Below.refl _ wr) nq))
              have r2 : (wr.drewN nq).cell? ⟨g2, k * 2 + 1, none⟩ = some (.int .i64 ry) := r1
              go_wp2_with fail
              go_roundw
              case rel => exact ⟨k + 1, y4 + ry, rx + ry, by omega, rfl, rfl, by go_num, Lib.hid (by rw [HST.out, HY4.out]), Lib.hid HSE.out.symm, HM5, HR5, HB5⟩
              case measure => simp [intOf]; omega
          · obtain rfl : k = n := by omega
            have hy4 : y4 = sumR l' := by rw [HY4.out, List.take_of_length_le (by have := HN.out; omega)]
            have hd4 := endTo_le HW'.out (show (0 : Int) ≤ z by omega)
            rw [HN.out, ← HD4.out] at hd4
            obtain ⟨q0, q1⟩ := hd4
            have hs4 := HW'.out.sum (show (0 : Int) ≤ z by omega)
            rw [← hy4] at hs4
            have q2 : 0 ≤ y4 ∧ y4 ≤ z := by omega
            obtain ⟨q2, q3⟩ := q2
            have hyz : (y4 + y' != z) = false := by have := HY'.out; simp; omega
            have dd1 : decide (z < d4) = false := decide_eq_false (by omega)
            have HL4 := Lib.hid (left_ok HM4.out HW'.out (by omega))
            rw [← HY'.out] at HL4
            clear hy4 hs4
            go_wp2_with fail
            refine HL4.out.mono ?_
            rintro e w7 ⟨rfl, b7⟩
            have H7 := Lib.hid (HM4.out.below b7)
            have B7 := Lib.hid (next HB4.out b7)
            clear b7
            go_wp2_with fail
            refine (size_ok H7.out).mono ?_
            rintro e w8 ⟨rfl, rfl⟩
            go_wp2
            go_roundw
            case rel => exact ⟨t + 1, l', by omega, by go_num, HW', H7, B7⟩
            case measure => simp [intOf]; omega
    · go_wp2
      go_ret
      exact ⟨rfl, HB.out⟩
end Go.Proofs.Ytoiiaacjpobaeaa
