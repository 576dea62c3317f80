/-
  The walk of polderlaw08.VdevMends: it returns true, and writes nothing that was there.
-/
import Derived.Test.YtlhnmcopioeboaaVs
namespace Go.Proofs.Ytlhnmcopioeboaa
set_option maxRecDepth 100000
open Go.RowKit Go.Maps M

set_option maxHeartbeats 8000000 in
theorem walk_VdevMends (v : Value) (l : List (Int × Int)) (sc k t : Int) (s u : ByteArray) (aI : Option Addr) (nI cI : Nat) (zs : List Int) (w : World) (h : Meas w v l sc) (hk : I64 k) (ht : I64 t) (hs : s.size ≤ maxLen) (hu : u.size ≤ maxLen) (hI : IsRow .i64 w aI nI cI zs) :
    Calls Try.prog 3 #[v, .agg #[.int .i64 k, .int .i64 t], .string s, .string u, .slice aI nI cI] w fun e w' => e = .returned (.bool true) ∧ Below w.heap.size w w' := by
  have hnI := hI.len_le
  have HII := Lib.hid hI
  clear hI
  unfold maxLen at hs hu hnI
  have K1 := h
  obtain ⟨a, gn, gc, rfl, hg⟩ := id h
  have hlen : l.length = gn := hg.1.2.1
  replace K1 := Lib.hid (HeldP.start k t K1)
  have HI := Lib.hid hk
  have HT := Lib.hid ht
  clear h hg hk ht
  go_enter Try.func3, Try.ntmps3
  go_wp2_with fail
  refine (awake8 _).mono ?_
  rintro e w1 ⟨rfl, c1⟩
  have K2 := Lib.hid (K1.out.next c1)
  clear c1 K1
  by_cases hgo : s.size ≤ 1000 ∧ u.size ≤ 1000 ∧ nI ≤ 30
  · obtain ⟨hs1, hu1, hn30⟩ := hgo
    have d1 : decide (1000 < (s.size : Int)) = false := by rw [decide_eq_false_iff_not]; omega
    have d2 : decide (1000 < (u.size : Int)) = false := by rw [decide_eq_false_iff_not]; omega
    have d3 : decide (30 < (nI : Int)) = false := by rw [decide_eq_false_iff_not]; omega
    have k0 := K2.out.h.c0
    have k1 := K2.out.h.c1
    have HS1 := Lib.hid hs1
    have HU1 := Lib.hid hu1
    by_cases hr : 100 < l.length ∨ 200 < sc ∨ rightL l sc = false
    · have HDV := Lib.hid (devices_no l sc _ w1 K2.out.h.m hr (.slice none 0 0) (.slice none 0 0))
      unfold noDevs at HDV
      clear hr
      go_wp2_with fail
      refine HDV.out.mono ?_
      rintro e w2 ⟨rfl, c2⟩
      have HF := Lib.hid (next (next K2.out.h.below c2) (boxed w2 (.cells #[.slice none 0 0, .int .i64 0, .slice none 0 0, .slice none 0 0] 32)))
      go_wp2
      go_ret
      exact ⟨rfl, HF.out⟩
    · have hr1 : RightM l sc := rightM_iff.1 (by cases e : rightL l sc with | true => rfl | false => exact absurd (.inr (.inr e)) hr)
      have hr2 : l.length ≤ 100 := by omega
      have hr3 : sc ≤ 200 := by omega
      have HR := Lib.hid hr1
      have HDV := Lib.hid (devices_ok l sc _ w1 K2.out.h.m hr2 hr3 hr1 none none 0 0 0 0 (fun _ => false) (fun _ => false) (Bl.nil _ _) (Bl.nil _ _))
      clear hr hr1 hr2 hr3
      go_wp2_with fail
      refine HDV.out.mono ?_
      rintro e w2 ⟨x, hv, rfl, rfl, h2, c2⟩
      rw [dsTo_none, awTo_none] at h2
      have hbx := boxed w2 (.cells #[.slice x.ga x.gn x.gc, .int .i64 x.sc, .slice (some ⟨x.lb, 0, none⟩) x.n x.n, .slice (some ⟨x.ab, 0, none⟩) x.n x.n] 32)
      have HS3 := Lib.hid ((h2.add hbx (BoxX.new w2 x _ (Nat.le_refl _) 32)).mono (Q := BoxX x w2.heap.size) fun w h => h.2)
      have C3 := Lib.hid (next c2 hbx)
      obtain ⟨_, h32⟩ := h2.right.1.devs h2.right.2
      obtain ⟨hn1, _⟩ := h2.right.1.devs h2.right.2
      have K3 := Lib.hid (K2.out.next C3.out)
      have f0 := HS3.out.out.c0
      have f1 := HS3.out.out.c1
      have f2 := HS3.out.out.c2
      have f3 := HS3.out.out.c3
      have p0 := K3.out.p0
      have p1 := K3.out.p1
      clear h2 c2 hbx k0 k1
      unfold Px.val
      by_cases hsu : s.size = u.size
      case neg =>
        have d4 : ((s.size : Int) == (u.size : Int)) = false := by rw [beq_eq_false_iff_ne]; omega
        have d5 : ((s.size : Int) != (u.size : Int)) = true := by unfold bne; rw [d4]; rfl
        clear hsu
        go_wp2
        go_ret
        exact ⟨rfl, K3.out.h.below⟩
      have HSU := Lib.hid hsu
      have d4 : ((s.size : Int) == (u.size : Int)) = true := by rw [hsu]; simp
      have d5 : ((s.size : Int) != (u.size : Int)) = false := by rw [hsu]; simp
      clear hsu
      cases hm : mayT l x.sc k t s.size with
      | false =>
        have HW := Lib.hid (write8_bad HS3.out k t HI.out HT.out s HS1.out hm)
        unfold Px.val at HW
        clear hm
        go_wp2_with fail
        refine HW.out.mono ?_
        rintro e w4 ⟨rfl, c4⟩
        go_wp2
        go_ret
        exact ⟨rfl, next K3.out.h.below c4⟩
      | true =>
        obtain ⟨k', t', z', rfl, rfl, hsz, hB⟩ := mayT_iff.1 hm
        have HB := Lib.hid hB
        have hPs := hB.puts hsz HS3.out.right.2
        have HP := Lib.hid hPs
        have HW := Lib.hid (write8_ok HS3.out k' t' z' hB s HS1.out hsz hPs (by omega))
        rw [failN_new, errN_zero (hB.right.all k' hB.hk)] at HW
        have HSZ := Lib.hid hsz
        unfold Px.val at HW
        clear hm hPs
        go_wp2_with fail
        refine HW.out.mono ?_
        rintro e w4 ⟨rfl, h4, c4⟩
        have HS4 := Lib.hid h4
        have C4 := Lib.hid (C3.out.trans c4)
        have K4 := Lib.hid (K2.out.next C4.out)
        clear h4 c4 f0 f1 f2 f3 p0 p1 HW
        have f0 := HS4.out.out.c0
        have f1 := HS4.out.out.c1
        have f2 := HS4.out.out.c2
        have f3 := HS4.out.out.c3
        have p0 := K4.out.p0
        have p1 := K4.out.p1
        have hus : u.size = z' * 64 := by rw [← HSU.out]; exact hsz
        have HUS := Lib.hid hus
        obtain ⟨q, hq⟩ : ∃ q : Nat → Int, q = fun i => zs.getD i 0 := ⟨_, rfl⟩
        have hq0 : w.heap.size ≤ w1.heap.size := K2.out.h.below.size
        have HQ : Hid (∀ W, Below w1.heap.size w1 W → ∀ i, i < nI → ∃ g o, aI = some ⟨g, o, none⟩ ∧ W.cell? ⟨g, o + i, none⟩ = some (.int .i64 (q i))) := Lib.hid fun W hb i hi => by
          obtain ⟨g, o, ha, hgl, hc, _⟩ := HII.out.at_ i hi
          have hb2 : Below w.heap.size w W := K2.out.h.below.trans (hb.mono hq0)
          exact ⟨g, o, ha, by rw [hq]; exact (hb2.cell (p := ⟨g, o + i, none⟩) hgl).trans hc⟩
        have HQB : Hid (∀ i, i < nI → I64 (q i)) := Lib.hid fun i hi => by
          obtain ⟨_, _, _, _, _, hwf⟩ := HII.out.at_ i hi
          rw [hq]
          exact bounds_i64 hwf
        have HME := Lib.hid (mend_ok HS4.out k' t' z' hB u HU1.out hus (hB.puts hus HS4.out.right.2) (by omega) aI nI cI q (by omega) (fun W hb => HQ.out W (C4.out.trans hb)) HQB.out)
        rw [wrTo_here, meN_want _ (zeroDv_here x.sc)] at HME
        unfold Px.val at HME
        clear hus hsz hq
        obtain ⟨wa, hwa⟩ : ∃ wa, wantN (colsOf l k' t' z').length q nI = wa := ⟨_, rfl⟩
        have hwl := wantN_le (colsOf l k' t' z').length q nI
        rw [hwa] at HME hwl
        go_wp2_with fail
        refine HME.out.mono ?_
        rintro e w5 ⟨rfl, h5, c5⟩
        have HS5 := Lib.hid h5
        have C5 := Lib.hid (C4.out.trans c5)
        have K5 := Lib.hid (K2.out.next C5.out)
        clear h5 c5 f0 f1 f2 f3 p0 p1 HME
        have f0 := HS5.out.out.c0
        have f1 := HS5.out.out.c1
        have f2 := HS5.out.out.c2
        have f3 := HS5.out.out.c3
        have p0 := K5.out.p0
        have p1 := K5.out.p1
        have hz4 := HB.out.z4
        have hszz := HSZ.out
        have q4 : Int.tdiv (s.size : Int) 64 = (z' : Int) := by rw [Int.tdiv_eq_ediv_of_nonneg (by omega)]; omega
        have HRW := Lib.hid (raw_ok HS5.out k' t' z' HB.out)
        unfold Px.val at HRW
        clear hszz
        go_wp2_with fail
        refine HRW.out.mono ?_
        rintro e w7 ⟨v7, rfl, hO7, c7⟩
        have HO7 := Lib.hid hO7
        have C7 := Lib.hid (C5.out.trans (c7.mono C5.out.size))
        have K7 := Lib.hid (K2.out.next C7.out)
        have HAP := Lib.hid (HB.out.apartN HS5.out.right.2)
        clear hO7 c7 f0 f1 f2 f3 p0 p1 HRW K5
        have k0 := K7.out.h.c0
        have k1 := K7.out.h.c1
        have p0 := K7.out.p0
        have p1 := K7.out.p1
        go_wp2_with fail
        refine (encode_ok l x.sc _ _ K7.out.h.m k' t' z' HB.out s HSZ.out).mono ?_
        rintro e w8 ⟨v8, rfl, hO8, c8⟩
        have HO8 := Lib.hid hO8
        have K8 := Lib.hid (K7.out.next c8)
        have C8 := Lib.hid (C7.out.trans (c8.mono C7.out.size))
        have HO7' := Lib.hid (HO7.out.below c8)
        clear hO8 c8 k0 k1 p0 p1 HO7 K7
        have k0 := K8.out.h.c0
        have k1 := K8.out.h.c1
        have p0 := K8.out.p0
        have p1 := K8.out.p1
        go_wp2_with fail
        refine (encode_ok l x.sc _ _ K8.out.h.m k' t' z' HB.out u HUS.out).mono ?_
        rintro e w10 ⟨v9, rfl, hO9, c9⟩
        have HOb := Lib.hid hO9
        have K10 := Lib.hid (K8.out.next c9)
        have C10 := Lib.hid (C8.out.trans (c9.mono C8.out.size))
        have HOr := Lib.hid (HO7'.out.below c9)
        have HOa := Lib.hid (HO8.out.below c9)
        clear hO9 c9 k0 k1 p0 p1 HO7' HO8 K8
        have hpos := HB.out.laid.pos
        have hfew := HB.out.laid.few
        obtain ⟨m, hm⟩ : ∃ m, (colsOf l k' t' z').length = m := ⟨_, rfl⟩
        obtain ⟨gr1, cr1, rfl, hcr1, _, _⟩ := own_ex HOr.out (by rw [rawL_len]; exact hpos)
        obtain ⟨ga1, ca1, rfl, hca1, _, _⟩ := own_ex HOa.out (by rw [encOf_len]; exact hpos)
        obtain ⟨gb1, cb1, rfl, hcb1, _, _⟩ := own_ex HOb.out (by rw [encOf_len]; exact hpos)
        rw [rawL_len, hm] at hcr1
        rw [encOf_len, hm] at hca1 hcb1
        rw [hm] at hpos hfew hwa
        rw [rawL_len, encOf_len, encOf_len, hm]
        have HMM := Lib.hid hm
        have HWA := Lib.hid hwa
        have HCE : Hid (∀ j, j < m → ∀ W, Below w10.heap.size w10 W → (∃ tx ty : ByteArray, W.cell? ⟨gr1, j, none⟩ = some (.string (if amongN q j nI = true then ty else tx)) ∧ W.cell? ⟨ga1, j, none⟩ = some (.string tx) ∧ W.cell? ⟨gb1, j, none⟩ = some (.string ty))) := Lib.hid fun j hj W hb => by
          have hjL : j < (colsOf l k' t' z').length := by rw [HMM.out]; exact hj
          have r := own_in (HOr.out.below hb) j (by rw [rawL_len]; exact hjL)
          have ra := own_in (HOa.out.below hb) j (by rw [encOf_len]; exact hjL)
          have rb := own_in (HOb.out.below hb) j (by rw [encOf_len]; exact hjL)
          refine ⟨_, _, ?_, ra, rb⟩
          rw [r, rawL_at _ _ _ _ hjL]
          congr 2
          have hh : ∀ d, hereB (wrTo (fun _ => zeroDv x.sc) (fun _ => false) (colsOf l k' t' z') (encOf l k' t' z' s) (colsOf l k' t' z').length) (fun _ => false) d = true := fun d => by
            rw [wrTo_here]; rfl
          rw [rawAt, meTo_here, hh, if_pos rfl, meTo_now HAP.out _ _ _ _ hh _ j hjL]
          split
          · rw [strOf_data]
          · rw [wrTo_now HAP.out _ _ _ _ (Nat.le_refl _) j hjL, if_pos ⟨hjL, zeroDv_here _ _⟩, strOf_data]
        have HFF := Lib.hid K10.out.h.below
        clear hm HOr HOa HOb hwa
        go_wp2_with fail
        go_loopw [23, 24] (fun i23 i24 wr => ∃ j : Nat, j ≤ nI ∧ i24 = .int .i64 j ∧ i23 = .int .i64 (wantN m q j : Int) ∧ wr = w10) (fun _ i _ => nI - (intOf i).toNat)
        case atStart => exact ⟨0, Nat.zero_le _, rfl, rfl, rfl⟩
        case round =>
          obtain ⟨j, hj, rfl, rfl, hwr⟩ := hrel
          have hwr' := hwr.symm
          clear hwr
          subst hwr'
          have hwj := wantN_le m q j
          by_cases hlt : j < nI
          · obtain ⟨gq, oq, rfl, hqc⟩ := HQ.out _ C10.out j hlt
            obtain ⟨qb0, qb1⟩ := HQB.out j hlt
            have HW1 : Hid (wantN m q (j + 1) = if okAt m (q j) then wantN m q j + 1 else wantN m q j) := Lib.hid rfl
            have q5 : (j : Int) < (nI : Int) := by omega
            generalize q j = qj at *
            generalize wantN m q j = T at *
            by_cases h0 : 0 ≤ qj
            · have e1 : decide ((0 : Int) ≤ qj) = true := by simpa using h0
              by_cases h1 : qj < (m : Int)
              · have e2 : decide (qj < (m : Int)) = true := by simpa using h1
                have HOK : Hid (okAt m qj = true) := Lib.hid (by unfold okAt; simp; omega)
                go_wp2
                go_roundw
                case rel => exact ⟨j + 1, by omega, by go_num, by rw [HW1.out, HOK.out, if_pos rfl]; go_num, trivial⟩
                case measure => simp [intOf]; omega
              · have e2 : decide (qj < (m : Int)) = false := by simpa using h1
                have HOK : Hid (okAt m qj = false) := Lib.hid (by unfold okAt; simp; omega)
                go_wp2
                go_roundw
                case rel => exact ⟨j + 1, by omega, by go_num, by rw [HW1.out, HOK.out, if_neg (by simp)], trivial⟩
                case measure => simp [intOf]; omega
            · have e1 : decide ((0 : Int) ≤ qj) = false := by simpa using h0
              have HOK : Hid (okAt m qj = false) := Lib.hid (by unfold okAt; simp; omega)
              go_wp2
              go_roundw
              case rel => exact ⟨j + 1, by omega, by go_num, by rw [HW1.out, HOK.out, if_neg (by simp)], trivial⟩
              case measure => simp [intOf]; omega
          · obtain rfl : j = nI := by omega
            rw [HWA.out]
            go_wp2_with fail
            go_loopw [25] (fun i wr => ∃ j : Nat, j ≤ m ∧ i = .int .i64 j ∧ Below w10.heap.size w10 wr) (fun i _ => m - (intOf i).toNat)
            case atStart => exact ⟨0, Nat.zero_le _, rfl, Below.refl _ _⟩
            case round =>
              obtain ⟨r, hr, rfl, hbw⟩ := hrel
              rename World => w11
              have Cr := Lib.hid hbw
              by_cases hlt2 : r < m
              · obtain ⟨tx, ty, cr, ca, cb⟩ := HCE.out r hlt2 w11 hbw
                have HC11 := Lib.hid (C10.out.trans (hbw.mono C10.out.size))
                clear hbw
                have q6 : (r : Int) < (m : Int) := by omega
                go_wp2_with fail
                go_loopw [26, 27] (fun i26 i27 wr => ∃ i : Nat, i ≤ j ∧ i27 = .int .i64 i ∧ i26 = .bool (amongN q r i) ∧ wr = w11) (fun _ i _ => j - (intOf i).toNat)
                case atStart => exact ⟨0, Nat.zero_le _, rfl, rfl, rfl⟩
                case round =>
                  obtain ⟨i, hi, rfl, rfl, hwr⟩ := hrel
                  have hwr' := hwr.symm
                  clear hwr
                  subst hwr'
                  by_cases hlt3 : i < j
                  · obtain ⟨gq, oq, rfl, hqc⟩ := HQ.out _ HC11.out i hlt3
                    have HA1 : Hid (amongN q r (i + 1) = (amongN q r i || decide (q i = (r : Int)))) := Lib.hid rfl
                    have q7 : (i : Int) < (j : Int) := by omega
                    generalize q i = qi at *
                    cases hb : amongN q r i with
                    | true =>
                      rw [hb] at HA1
                      clear hb
                      go_wp2
                      go_roundw
                      case rel => exact ⟨i + 1, by omega, by go_num, by rw [HA1.out]; rfl, trivial⟩
                      case measure => simp [intOf]; omega
                    | false =>
                      rw [hb, Bool.false_or] at HA1
                      clear hb
                      by_cases he : qi = (r : Int)
                      · subst he
                        have e7 : ((r : Int) == (r : Int)) = true := by simp
                        go_wp2
                        go_roundw
                        case rel => exact ⟨i + 1, by omega, by go_num, by rw [HA1.out]; simp, trivial⟩
                        case measure => simp [intOf]; omega
                      · have e7 : (qi == (r : Int)) = false := by rw [beq_eq_false_iff_ne]; exact he
                        go_wp2
                        go_roundw
                        case rel => exact ⟨i + 1, by omega, by go_num, by rw [HA1.out]; simp [he], trivial⟩
                        case measure => simp [intOf]; omega
                  · obtain rfl : i = j := by omega
                    cases hb : amongN q r i with
                    | true =>
                      rw [hb, if_pos rfl] at cr
                      clear hb
                      go_wp2_with fail
                      go_quiet (fail)
                      go_wp2
                      go_roundw
                      case rel => exact ⟨r + 1, by omega, by go_num, by with_reducible (first | exact Cr.out | exact Cr.out.drew | exact below_drewN Cr.out _)⟩
                      case measure => simp [intOf]; omega
                    | false =>
                      rw [hb, if_neg (by simp)] at cr
                      clear hb
                      go_wp2_with fail
                      go_quiet (fail)
                      go_wp2
                      go_roundw
                      case rel => exact ⟨r + 1, by omega, by go_num, by with_reducible (first | exact Cr.out | exact Cr.out.drew | exact below_drewN Cr.out _)⟩
                      case measure => simp [intOf]; omega
              · obtain rfl : r = m := by omega
                have HF2 := Lib.hid (next HFF.out Cr.out)
                have e8 : ((wa : Int) == (wa : Int)) = true := by simp
                clear hbw
                go_wp2
                go_ret
                exact ⟨rfl, HF2.out⟩
  · have HFF := Lib.hid K2.out.h.below
    by_cases hs1 : s.size ≤ 1000
    · have d1 : decide (1000 < (s.size : Int)) = false := by rw [decide_eq_false_iff_not]; omega
      by_cases hu1 : u.size ≤ 1000
      · have d2 : decide (1000 < (u.size : Int)) = false := by rw [decide_eq_false_iff_not]; omega
        have d3 : decide (30 < (nI : Int)) = true := by rw [decide_eq_true_iff]; omega
        clear hgo
        go_wp2_with fail
        refine (awake8 _).mono ?_
        rintro e w4 ⟨rfl, c4⟩
        go_wp2
        go_ret
        exact ⟨rfl, next HFF.out c4⟩
      · have d2 : decide (1000 < (u.size : Int)) = true := by rw [decide_eq_true_iff]; omega
        clear hgo
        go_wp2_with fail
        refine (awake8 _).mono ?_
        rintro e w4 ⟨rfl, c4⟩
        go_wp2
        go_ret
        exact ⟨rfl, next HFF.out c4⟩
    · have d1 : decide (1000 < (s.size : Int)) = true := by rw [decide_eq_true_iff]; omega
      clear hgo
      go_wp2_with fail
      refine (awake8 _).mono ?_
      rintro e w4 ⟨rfl, c4⟩
      go_wp2
      go_ret
      exact ⟨rfl, next HFF.out c4⟩
end Go.Proofs.Ytlhnmcopioeboaa
