/-
  The walk of polderlaw08.VdevAway: it returns true, and writes nothing that was there.
-/
import Derived.Test.YtlhnmcopioeboaaVr
import Derived.Test.YtlhnmcopioeboaaMg
namespace Go.Proofs.Ytlhnmcopioeboaa
set_option maxRecDepth 100000
open Go.RowKit Go.Maps M

set_option maxHeartbeats 8000000 in
theorem walk_VdevAway (v : Value) (l : List (Int × Int)) (sc k t : Int) (s u : ByteArray) (dv : Int) (w : World) (h : Meas w v l sc) (hk : I64 k) (ht : I64 t) (hs : s.size ≤ maxLen) (hu : u.size ≤ maxLen) (hdv : (Lit.int .u8 dv).wf = true) :
    Calls Try.prog 5 #[v, .agg #[.int .i64 k, .int .i64 t], .string s, .string u, .int .u8 dv] w fun e w' => e = .returned (.bool true) ∧ Below w.heap.size w w' := by
  obtain ⟨v0, v1⟩ : 0 ≤ dv ∧ dv ≤ 255 := by simpa [Lit.wf, IntKind.min, IntKind.max, IntKind.signed, IntKind.bits] using hdv
  clear hdv
  unfold maxLen at hs hu
  have K1 := h
  obtain ⟨a, gn, gc, rfl, hg⟩ := id h
  have hlen : l.length = gn := hg.1.2.1
  replace K1 := Lib.hid (HeldP.start k t K1)
  have HI := Lib.hid hk
  have HT := Lib.hid ht
  clear h hg hk ht
  go_enter Try.func5, Try.ntmps5
  go_wp2_with fail
  refine (awake8 _).mono ?_
  rintro e w1 ⟨rfl, c1⟩
  have K2 := Lib.hid (K1.out.next c1)
  clear c1 K1
  by_cases hgo : s.size ≤ 1000 ∧ u.size ≤ 1000 ∧ s.size = u.size
  · obtain ⟨hs1, hu1, hsu⟩ := hgo
    have HSU := Lib.hid hsu
    have d1 : decide (1000 < (s.size : Int)) = false := by rw [decide_eq_false_iff_not]; omega
    have d2 : decide (1000 < (u.size : Int)) = false := by rw [decide_eq_false_iff_not]; omega
    have d3 : ((s.size : Int) == (u.size : Int)) = true := by rw [hsu]; simp
    have d4 : ((s.size : Int) != (u.size : Int)) = false := by rw [hsu]; simp
    have k0 := K2.out.h.c0
    have k1 := K2.out.h.c1
    have HS1 := Lib.hid hs1
    have HU1 := Lib.hid hu1
    clear hsu
    by_cases hr : 100 < l.length ∨ 200 < sc ∨ rightL l sc = false
    · have HDV := Lib.hid (devices_no l sc _ w1 K2.out.h.m hr (.slice none 0 0) (.slice none 0 0))
      unfold noDevs at HDV
      clear hr
      go_wp2_with fail
      refine HDV.out.mono ?_
      rintro e w2 ⟨rfl, c2⟩
      have HF := Lib.hid (next (next K2.out.h.below c2) (boxed w2 (.cells #[.slice none 0 0, .int .i64 0, .slice none 0 0, .slice none 0 0] 32)))
      go_wp2
      go_ret
      exact ⟨rfl, HF.out⟩
    · have hr1 : RightM l sc := rightM_iff.1 (by cases e : rightL l sc with | true => rfl | false => exact absurd (.inr (.inr e)) hr)
      have hr2 : l.length ≤ 100 := by omega
      have hr3 : sc ≤ 200 := by omega
      have HR := Lib.hid hr1
      have HDV := Lib.hid (devices_ok l sc _ w1 K2.out.h.m hr2 hr3 hr1 none none 0 0 0 0 (fun _ => false) (fun _ => false) (Bl.nil _ _) (Bl.nil _ _))
      clear hr hr1 hr2 hr3
      go_wp2_with fail
      refine HDV.out.mono ?_
      rintro e w2 ⟨x, hv, rfl, rfl, h2, c2⟩
      rw [dsTo_none, awTo_none] at h2
      have hbx := boxed w2 (.cells #[.slice x.ga x.gn x.gc, .int .i64 x.sc, .slice (some ⟨x.lb, 0, none⟩) x.n x.n, .slice (some ⟨x.ab, 0, none⟩) x.n x.n] 32)
      have HS3 := Lib.hid ((h2.add hbx (BoxX.new w2 x _ (Nat.le_refl _) 32)).mono (Q := BoxX x w2.heap.size) fun w h => h.2)
      have C3 := Lib.hid (next c2 hbx)
      obtain ⟨_, h32⟩ := h2.right.1.devs h2.right.2
      obtain ⟨hn1, _⟩ := h2.right.1.devs h2.right.2
      have K3 := Lib.hid (K2.out.next C3.out)
      have f0 := HS3.out.out.c0
      have f1 := HS3.out.out.c1
      have f2 := HS3.out.out.c2
      have f3 := HS3.out.out.c3
      have p0 := K3.out.p0
      have p1 := K3.out.p1
      clear h2 c2 hbx k0 k1
      unfold Px.val
      cases hm : mayT l x.sc k t s.size with
      | false =>
        have HW := Lib.hid (write8_bad HS3.out k t HI.out HT.out s HS1.out hm)
        unfold Px.val at HW
        clear hm
        go_wp2_with fail
        refine HW.out.mono ?_
        rintro e w4 ⟨rfl, c4⟩
        go_wp2
        go_ret
        exact ⟨rfl, next K3.out.h.below c4⟩
      | true =>
        obtain ⟨k', t', z', rfl, rfl, hsz, hB⟩ := mayT_iff.1 hm
        have HB := Lib.hid hB
        have hPs := hB.puts hsz HS3.out.right.2
        have HP := Lib.hid hPs
        have HW := Lib.hid (write8_ok HS3.out k' t' z' hB s HS1.out hsz hPs (by omega))
        rw [failN_new, errN_zero (hB.right.all k' hB.hk)] at HW
        have HSZ := Lib.hid hsz
        unfold Px.val at HW
        clear hm hPs
        go_wp2_with fail
        refine HW.out.mono ?_
        rintro e w4 ⟨rfl, h4, c4⟩
        have HS4 := Lib.hid h4
        have C4 := Lib.hid (C3.out.trans c4)
        have K4 := Lib.hid (K2.out.next C4.out)
        clear h4 c4 f0 f1 f2 f3 p0 p1 HW
        have f0 := HS4.out.out.c0
        have f1 := HS4.out.out.c1
        have f2 := HS4.out.out.c2
        have f3 := HS4.out.out.c3
        have p0 := K4.out.p0
        have p1 := K4.out.p1
        obtain ⟨vn, rfl⟩ := Int.eq_ofNat_of_zero_le v0
        obtain ⟨dd, hdd⟩ : ∃ dd, vn % x.n = dd := ⟨_, rfl⟩
        have hdn : dd < x.n := by rw [← hdd]; exact Nat.mod_lt _ hn1
        have r1 : Int.tmod (vn : Int) (x.n : Int) = (dd : Int) := by rw [Int.tmod_eq_emod_of_nonneg (by omega), ← hdd]; rfl
        have r3 : ¬ (x.n : Int) = 0 := by omega
        have r4 : ((x.n : Int) == 0) = false := by simp; omega
        have q1 : (0 : Int) ≤ (dd : Int) := by omega
        have q2 : (dd : Int) < (x.n : Int) := by omega
        have ha := HS4.out.away hdn
        have a0 := ha.1
        have a1 := ha.2
        have HM := Lib.hid (HS4.out.mark hdn true)
        have K4' := Lib.hid (K2.out.next (C4.out.trans HM.out.2.1))
        have g0 := HM.out.1.out.c0
        have g1 := HM.out.1.out.c1
        have g2 := HM.out.1.out.c2
        have g3 := HM.out.1.out.c3
        have y0 := K4'.out.p0
        have y1 := K4'.out.p1
        have hus : u.size = z' * 64 := by rw [← HSU.out]; exact hsz
        have HUS := Lib.hid hus
        have HW2 := Lib.hid (write8_ok HM.out.1 k' t' z' hB u HU1.out hus (hB.puts hus HM.out.1.right.2) (by omega))
        unfold Px.val at HW2
        generalize failN (wrTo (fun _ => zeroDv x.sc) (fun _ => false) (colsOf l k' t' z') (encOf l k' t' z' s) (colsOf l k' t' z').length) (upd (fun _ => false) dd true) (colsOf l k' t' z') = fN at HW2
        generalize errN (l[k']'hB.hk) fN = eN at HW2
        clear ha hus hsz hdd
        go_wp2_with fail
        refine HW2.out.mono ?_
        rintro e w5 ⟨rfl, h5, c5⟩
        have HS5 := Lib.hid h5
        have C5 := Lib.hid ((C4.out.trans HM.out.2.1).trans c5)
        clear h5 c5 f0 f1 f2 f3 p0 p1 a0 a1 g0 g1 g2 g3 y0 y1 HW2 K4' HM
        have f0 := HS5.out.out.c0
        have f1 := HS5.out.out.c1
        have f2 := HS5.out.out.c2
        have f3 := HS5.out.out.c3
        have ha := HS5.out.away hdn
        have a0 := ha.1
        have a1 := ha.2
        rw [upd_same] at a0
        have HM := Lib.hid (HS5.out.mark hdn false)
        have eaw : upd (upd (fun _ => false) dd true) dd false = fun _ => false := by
          funext i
          by_cases e : i = dd
          · subst e; rw [upd_same]
          · rw [upd_other _ _ e, upd_other _ _ e]
        rw [eaw] at HM
        have C6 := Lib.hid (C5.out.trans HM.out.2.1)
        have K6 := Lib.hid (K2.out.next C6.out)
        have g0 := HM.out.1.out.c0
        have g1 := HM.out.1.out.c1
        have g2 := HM.out.1.out.c2
        have g3 := HM.out.1.out.c3
        have y0 := K6.out.p0
        have y1 := K6.out.p1
        have hz4 := HB.out.z4
        have hszz := HSZ.out
        have q4 : Int.tdiv (s.size : Int) 64 = (z' : Int) := by rw [Int.tdiv_eq_ediv_of_nonneg (by omega)]; omega
        have HRW := Lib.hid (raw_ok HM.out.1 k' t' z' HB.out)
        unfold Px.val at HRW
        clear ha eaw hszz
        go_wp2_with fail
        refine HRW.out.mono ?_
        rintro e w7 ⟨v7, rfl, hO7, c7⟩
        have HO7 := Lib.hid hO7
        have C7 := Lib.hid (C6.out.trans (c7.mono C6.out.size))
        have K7 := Lib.hid (K2.out.next C7.out)
        have HAP := Lib.hid (HB.out.apartN HS5.out.right.2)
        clear hO7 c7 f0 f1 f2 f3 a0 a1 g0 g1 g2 g3 y0 y1 HM HRW K6
        have k0 := K7.out.h.c0
        have k1 := K7.out.h.c1
        have p0 := K7.out.p0
        have p1 := K7.out.p1
        go_wp2_with fail
        refine (encode_ok l x.sc _ _ K7.out.h.m k' t' z' HB.out s HSZ.out).mono ?_
        rintro e w8 ⟨v8, rfl, hO8, c8⟩
        have HO8 := Lib.hid hO8
        have K8 := Lib.hid (K7.out.next c8)
        have HO7' := Lib.hid (HO7.out.below c8)
        clear hO8 c8 k0 k1 p0 p1 HO7 K7
        have k0 := K8.out.h.c0
        have k1 := K8.out.h.c1
        have p0 := K8.out.p0
        have p1 := K8.out.p1
        go_wp2_with fail
        refine (encode_ok l x.sc _ _ K8.out.h.m k' t' z' HB.out u HUS.out).mono ?_
        rintro e w9 ⟨v9, rfl, hO9, c9⟩
        have HO9 := Lib.hid hO9
        have K9 := Lib.hid (K8.out.next c9)
        have HO7 := Lib.hid (HO7'.out.below c9)
        have HO8' := Lib.hid (HO8.out.below c9)
        clear hO9 c9 k0 k1 p0 p1 HO7' HO8 K8
        have k0 := K9.out.h.c0
        have k1 := K9.out.h.c1
        have p0 := K9.out.p0
        have p1 := K9.out.p1
        go_wp2_with fail
        refine (refOf_any l x.sc _ _ K9.out.h.m k' t' z' HB.out).mono ?_
        rintro e w10 ⟨v10, rfl, hO10, c10⟩
        have HO10 := Lib.hid hO10
        have K10 := Lib.hid (K9.out.next c10)
        have HOr := Lib.hid (HO7.out.below c10)
        have HOa := Lib.hid (HO8'.out.below c10)
        have HOb := Lib.hid (HO9.out.below c10)
        clear hO10 c10 k0 k1 p0 p1 HO7 HO8' HO9 K9
        have hpos := HB.out.laid.pos
        have hfew := HB.out.laid.few
        obtain ⟨m, hm⟩ : ∃ m, (colsOf l k' t' z').length = m := ⟨_, rfl⟩
        obtain ⟨gc1, cc1, rfl, hcc1, _, _⟩ := HO10.out.some hpos
        obtain ⟨gr1, cr1, rfl, hcr1, _, _⟩ := own_ex HOr.out (by rw [rawL_len]; exact hpos)
        obtain ⟨ga1, ca1, rfl, hca1, _, _⟩ := own_ex HOa.out (by rw [encOf_len]; exact hpos)
        obtain ⟨gb1, cb1, rfl, hcb1, _, _⟩ := own_ex HOb.out (by rw [encOf_len]; exact hpos)
        rw [rawL_len, hm] at hcr1
        rw [encOf_len, hm] at hca1 hcb1
        rw [hm] at hcc1 hpos hfew
        rw [rawL_len, encOf_len, encOf_len, hm]
        have HMM := Lib.hid hm
        have HCE : Hid (∀ j, j < m → ∀ W, Below w10.heap.size w10 W → (∃ d : Nat, W.cell? ⟨gc1, j * 4, none⟩ = some (.int .i64 (d : Int)) ∧ ∃ tx ty : ByteArray, W.cell? ⟨gr1, j, none⟩ = some (.string (if d = dd then tx else ty)) ∧ W.cell? ⟨ga1, j, none⟩ = some (.string tx) ∧ W.cell? ⟨gb1, j, none⟩ = some (.string ty))) := Lib.hid fun j hj W hb => by
          have hjL : j < (colsOf l k' t' z').length := by rw [HMM.out]; exact hj
          have c0 := (ownC_in (HO10.out.below hb) j hjL).c0
          rw [(HP.out.dev j hjL).1] at c0
          have r := own_in (HOr.out.below hb) j (by rw [rawL_len]; exact hjL)
          have ra := own_in (HOa.out.below hb) j (by rw [encOf_len]; exact hjL)
          have rb := own_in (HOb.out.below hb) j (by rw [encOf_len]; exact hjL)
          refine ⟨_, c0, _, _, ?_, ra, rb⟩
          rw [r, rawL_at _ _ _ _ hjL]
          congr 2
          have e1 : ∀ i, hereB (wrTo (fun _ => zeroDv x.sc) (fun _ => false) (colsOf l k' t' z') (encOf l k' t' z' s) (colsOf l k' t' z').length) (upd (fun _ => false) dd true) i = !decide (i = dd) := fun i => by
            have e2 := congrFun (wrTo_here (fun _ => zeroDv x.sc) (fun _ => false) (colsOf l k' t' z') (encOf l k' t' z' s) (colsOf l k' t' z').length) i
            rw [zeroDv_here] at e2
            unfold hereB at e2 ⊢
            simp at e2
            rw [e2]
            unfold upd
            by_cases e : i = dd <;> simp [e]
          have e3 : hereB (wrTo (wrTo (fun _ => zeroDv x.sc) (fun _ => false) (colsOf l k' t' z') (encOf l k' t' z' s) (colsOf l k' t' z').length) (upd (fun _ => false) dd true) (colsOf l k' t' z') (encOf l k' t' z' u) (colsOf l k' t' z').length) (fun _ => false) (devN (colsOf l k' t' z') j) = true := by
            have e4 := congrFun (wrTo_here (wrTo (fun _ => zeroDv x.sc) (fun _ => false) (colsOf l k' t' z') (encOf l k' t' z' s) (colsOf l k' t' z').length) (upd (fun _ => false) (dd + devN (colsOf l k' t' z') j + 1) true) (colsOf l k' t' z') (encOf l k' t' z' u) (colsOf l k' t' z').length) (devN (colsOf l k' t' z') j)
            have lostE : ∀ (ds : Nat → Dv) (aw : Nat → Bool) (L : List C) (E : List ByteArray) (m i : Nat), (wrTo ds aw L E m i).lost = (ds i).lost := fun ds aw L E m i => by
              induction m with
              | zero => rfl
              | succ m ih =>
                rw [wrTo, ← ih]
                unfold putD
                split
                · unfold upd
                  split
                  · rename_i e; subst e; rfl
                  · rfl
                · rfl
            unfold hereB
            rw [lostE, lostE]
            rfl
          rw [rawAt, e3, if_pos rfl, wrTo_now HAP.out _ _ _ _ (Nat.le_refl _) j hjL, e1]
          by_cases ed : devN (colsOf l k' t' z') j = dd
          · rw [if_neg (by simp [ed]), if_pos ed, wrTo_now HAP.out _ _ _ _ (Nat.le_refl _) j hjL, if_pos ⟨hjL, zeroDv_here _ _⟩, strOf_data]
          · rw [if_pos ⟨hjL, by simp [ed]⟩, if_neg ed, strOf_data]
        have HFF := Lib.hid K10.out.h.below
        clear hm HOr HOa HOb HO10
        go_wp2_with fail
        go_loopw [24] (fun i wr => ∃ j : Nat, j ≤ m ∧ i = .int .i64 j ∧ Below w10.heap.size w10 wr) (fun i _ => m - (intOf i).toNat)
        case atStart => exact ⟨0, Nat.zero_le _, rfl, Below.refl _ _⟩
        case round =>
          obtain ⟨j, hj, rfl, hbw⟩ := hrel
          have Cr := Lib.hid hbw
          by_cases hlt : j < m
          · obtain ⟨d, c0, tx, ty, cr, ca, cb⟩ := HCE.out j hlt wr hbw
            clear hbw
            have q5 : (j : Int) < (m : Int) := by omega
            have q6 : (0 : Int) ≤ (j : Int) := by omega
            by_cases ed : d = dd
            · subst ed
              rw [if_pos rfl] at cr
              have d5 : ((d : Int) == (d : Int)) = true := by simp
              have d6 : ((d : Int) != (d : Int)) = false := by simp
              go_wp2_with fail
              go_quiet (fail)
              go_wp2
              go_roundw
              case rel => exact ⟨j + 1, by omega, by go_num, by with_reducible (first | exact Cr.out | exact Cr.out.drew | exact below_drewN Cr.out _)⟩
              case measure => simp [intOf]; omega
            · rw [if_neg ed] at cr
              have d5 : ((d : Int) == (dd : Int)) = false := by rw [beq_eq_false_iff_ne]; omega
              have d6 : ((d : Int) != (dd : Int)) = true := by unfold bne; rw [d5]; rfl
              go_wp2_with fail
              go_quiet (fail)
              go_wp2
              go_roundw
              case rel => exact ⟨j + 1, by omega, by go_num, by with_reducible (first | exact Cr.out | exact Cr.out.drew | exact below_drewN Cr.out _)⟩
              case measure => simp [intOf]; omega
          · obtain rfl : j = m := by omega
            have HF2 := Lib.hid (next HFF.out Cr.out)
            clear hbw
            go_wp2
            go_ret
            exact ⟨rfl, HF2.out⟩
  · have HFF := Lib.hid K2.out.h.below
    by_cases hs1 : s.size ≤ 1000
    · have d1 : decide (1000 < (s.size : Int)) = false := by rw [decide_eq_false_iff_not]; omega
      by_cases hu1 : u.size ≤ 1000
      · have d2 : decide (1000 < (u.size : Int)) = false := by rw [decide_eq_false_iff_not]; omega
        have d3 : ((s.size : Int) == (u.size : Int)) = false := by rw [beq_eq_false_iff_ne]; intro e; exact hgo ⟨hs1, hu1, by omega⟩
        have d4 : ((s.size : Int) != (u.size : Int)) = true := by unfold bne; rw [d3]; rfl
        clear hgo
        go_wp2_with fail
        refine (awake8 _).mono ?_
        rintro e w4 ⟨rfl, c4⟩
        go_wp2
        go_ret
        exact ⟨rfl, next HFF.out c4⟩
      · have d2 : decide (1000 < (u.size : Int)) = true := by rw [decide_eq_true_iff]; omega
        clear hgo
        go_wp2_with fail
        refine (awake8 _).mono ?_
        rintro e w4 ⟨rfl, c4⟩
        go_wp2
        go_ret
        exact ⟨rfl, next HFF.out c4⟩
    · have d1 : decide (1000 < (s.size : Int)) = true := by rw [decide_eq_true_iff]; omega
      clear hgo
      go_wp2_with fail
      refine (awake8 _).mono ?_
      rintro e w4 ⟨rfl, c4⟩
      go_wp2
      go_ret
      exact ⟨rfl, next HFF.out c4⟩
end Go.Proofs.Ytlhnmcopioeboaa
