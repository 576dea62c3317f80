/-
  The walk of polderlaw08.VdevFlush: it returns true, and writes nothing that was there.
-/
import Derived.Test.YtlhnmcopioeboaaVr
namespace Go.Proofs.Ytlhnmcopioeboaa
set_option maxRecDepth 100000
open Go.RowKit Go.Maps M

set_option maxHeartbeats 8000000 in
theorem walk_VdevFlush (v : Value) (l : List (Int × Int)) (sc k t : Int) (s u : ByteArray) (w : World) (h : Meas w v l sc) (hk : I64 k) (ht : I64 t) (hs : s.size ≤ maxLen) (hu : u.size ≤ maxLen) :
    Calls Try.prog 6 #[v, .agg #[.int .i64 k, .int .i64 t], .string s, .string u] w fun e w' => e = .returned (.bool true) ∧ Below w.heap.size w w' := by
  unfold maxLen at hs hu
  have K1 := h
  obtain ⟨a, gn, gc, rfl, hg⟩ := id h
  have hlen : l.length = gn := hg.1.2.1
  replace K1 := Lib.hid (HeldP.start k t K1)
  have HI := Lib.hid hk
  have HT := Lib.hid ht
  clear h hg hk ht
  go_enter Try.func6, Try.ntmps6
  go_wp2_with fail
  refine (awake8 _).mono ?_
  rintro e w1 ⟨rfl, c1⟩
  have K2 := Lib.hid (K1.out.next c1)
  clear c1 K1
  by_cases hgo : s.size ≤ 1000 ∧ u.size ≤ 1000 ∧ s.size = u.size
  · obtain ⟨hs1, hu1, hsu⟩ := hgo
    have HSU := Lib.hid hsu
    have d1 : decide (1000 < (s.size : Int)) = false := by rw [decide_eq_false_iff_not]; omega
    have d2 : decide (1000 < (u.size : Int)) = false := by rw [decide_eq_false_iff_not]; omega
    have d3 : ((s.size : Int) == (u.size : Int)) = true := by rw [hsu]; simp
    have d4 : ((s.size : Int) != (u.size : Int)) = false := by rw [hsu]; simp
    have k0 := K2.out.h.c0
    have k1 := K2.out.h.c1
    have HS1 := Lib.hid hs1
    have HU1 := Lib.hid hu1
    clear hsu
    by_cases hr : 100 < l.length ∨ 200 < sc ∨ rightL l sc = false
    · have HDV := Lib.hid (devices_no l sc _ w1 K2.out.h.m hr (.slice none 0 0) (.slice none 0 0))
      unfold noDevs at HDV
      clear hr
      go_wp2_with fail
      refine HDV.out.mono ?_
      rintro e w2 ⟨rfl, c2⟩
      have HF := Lib.hid (next (next K2.out.h.below c2) (boxed w2 (.cells #[.slice none 0 0, .int .i64 0, .slice none 0 0, .slice none 0 0] 32)))
      go_wp2
      go_ret
      exact ⟨rfl, HF.out⟩
    · have hr1 : RightM l sc := rightM_iff.1 (by cases e : rightL l sc with | true => rfl | false => exact absurd (.inr (.inr e)) hr)
      have hr2 : l.length ≤ 100 := by omega
      have hr3 : sc ≤ 200 := by omega
      have HR := Lib.hid hr1
      have HDV := Lib.hid (devices_ok l sc _ w1 K2.out.h.m hr2 hr3 hr1 none none 0 0 0 0 (fun _ => false) (fun _ => false) (Bl.nil _ _) (Bl.nil _ _))
      clear hr hr1 hr2 hr3
      go_wp2_with fail
      refine HDV.out.mono ?_
      rintro e w2 ⟨x, hv, rfl, rfl, h2, c2⟩
      rw [dsTo_none, awTo_none] at h2
      have hbx := boxed w2 (.cells #[.slice x.ga x.gn x.gc, .int .i64 x.sc, .slice (some ⟨x.lb, 0, none⟩) x.n x.n, .slice (some ⟨x.ab, 0, none⟩) x.n x.n] 32)
      have HS3 := Lib.hid ((h2.add hbx (BoxX.new w2 x _ (Nat.le_refl _) 32)).mono (Q := BoxX x w2.heap.size) fun w h => h.2)
      have C3 := Lib.hid (next c2 hbx)
      obtain ⟨_, h32⟩ := h2.right.1.devs h2.right.2
      obtain ⟨hn1, _⟩ := h2.right.1.devs h2.right.2
      have K3 := Lib.hid (K2.out.next C3.out)
      have f0 := HS3.out.out.c0
      have f1 := HS3.out.out.c1
      have f2 := HS3.out.out.c2
      have f3 := HS3.out.out.c3
      have p0 := K3.out.p0
      have p1 := K3.out.p1
      clear h2 c2 hbx k0 k1
      unfold Px.val
      cases hm : mayT l x.sc k t s.size with
      | false =>
        have HW := Lib.hid (write8_bad HS3.out k t HI.out HT.out s HS1.out hm)
        unfold Px.val at HW
        clear hm
        go_wp2_with fail
        refine HW.out.mono ?_
        rintro e w4 ⟨rfl, c4⟩
        go_wp2
        go_ret
        exact ⟨rfl, next K3.out.h.below c4⟩
      | true =>
        obtain ⟨k', t', z', rfl, rfl, hsz, hB⟩ := mayT_iff.1 hm
        have HB := Lib.hid hB
        have hPs := hB.puts hsz HS3.out.right.2
        have HP := Lib.hid hPs
        have HW := Lib.hid (write8_ok HS3.out k' t' z' hB s HS1.out hsz hPs (by omega))
        rw [failN_new, errN_zero (hB.right.all k' hB.hk)] at HW
        have HSZ := Lib.hid hsz
        unfold Px.val at HW
        clear hm hPs
        go_wp2_with fail
        refine HW.out.mono ?_
        rintro e w4 ⟨rfl, h4, c4⟩
        have HS4 := Lib.hid h4
        have C4 := Lib.hid (C3.out.trans c4)
        have K4 := Lib.hid (K2.out.next C4.out)
        clear h4 c4 f0 f1 f2 f3 p0 p1 HW
        have f0 := HS4.out.out.c0
        have f1 := HS4.out.out.c1
        have f2 := HS4.out.out.c2
        have f3 := HS4.out.out.c3
        have p0 := K4.out.p0
        have p1 := K4.out.p1
        have HFL := Lib.hid (flush8_any HS4.out (by omega))
        rw [wrTo_here, goneN_all x.n fun j _ => zeroDv_here x.sc j] at HFL
        have e0 : errF 0 x.n = 0 := by unfold errF; rw [if_neg (by omega)]
        rw [e0] at HFL
        unfold Px.val at HFL
        clear e0
        go_wp2_with fail
        refine HFL.out.mono ?_
        rintro e w5 ⟨rfl, h5, c5⟩
        have HS5 := Lib.hid h5
        have C5 := Lib.hid (C4.out.trans c5)
        have K5 := Lib.hid (K2.out.next C5.out)
        clear h5 c5 f0 f1 f2 f3 p0 p1 HFL
        have f0 := HS5.out.out.c0
        have f1 := HS5.out.out.c1
        have f2 := HS5.out.out.c2
        have f3 := HS5.out.out.c3
        have p0 := K5.out.p0
        have p1 := K5.out.p1
        have hus : u.size = z' * 64 := by rw [← HSU.out]; exact hsz
        have HW2 := Lib.hid (write8_ok HS5.out k' t' z' hB u HU1.out hus (hB.puts hus HS5.out.right.2) (by omega))
        unfold Px.val at HW2
        clear hus hsz
        generalize failN (flTo (wrTo (fun _ => zeroDv x.sc) (fun _ => false) (colsOf l k' t' z') (encOf l k' t' z' s) (colsOf l k' t' z').length) (fun _ => false) x.n) (fun _ => false) (colsOf l k' t' z') = fN at HW2
        generalize errN (l[k']'hB.hk) fN = eN at HW2
        go_wp2_with fail
        refine HW2.out.mono ?_
        rintro e w6 ⟨rfl, h6, c6⟩
        have HS6 := Lib.hid h6
        have C6 := Lib.hid (C5.out.trans c6)
        clear h6 c6 f0 f1 f2 f3 p0 p1 HW2
        go_wp2_with fail
        generalize hds : wrTo (flTo (wrTo (fun _ => zeroDv x.sc) (fun _ => false) (colsOf l k' t' z') (encOf l k' t' z' s) (colsOf l k' t' z').length) (fun _ => false) x.n) (fun _ => false) (colsOf l k' t' z') (encOf l k' t' z' u) (colsOf l k' t' z').length = ds at HS6
        have HDS := Lib.hid hds
        have HLO : Hid (∀ i, i < x.n → (ds i).lost = false) := Lib.hid fun i hi => by
          have e1 := congrFun (wrTo_here (flTo (wrTo (fun _ => zeroDv x.sc) (fun _ => false) (colsOf l k' t' z') (encOf l k' t' z' s) (colsOf l k' t' z').length) (fun _ => false) x.n) (fun _ => false) (colsOf l k' t' z') (encOf l k' t' z' u) (colsOf l k' t' z').length) i
          rw [hds, flTo_here, wrTo_here, zeroDv_here] at e1
          unfold hereB at e1
          simpa using e1
        clear hds
        go_loopw [16] (fun i wr => ∃ j : Nat, j ≤ x.n ∧ i = .int .i64 j ∧ St w1.heap.size wr x l (crTo ds j) (fun _ => false) (0 + 32 + 32) (BoxX x w2.heap.size) ∧ Below w1.heap.size w1 wr) (fun i _ => x.n - (intOf i).toNat)
        case atStart => exact ⟨0, Nat.zero_le _, rfl, by rw [crTo_zero]; exact HS6.out, C6.out⟩
        case round =>
          obtain ⟨j, hj, rfl, hst, hbw⟩ := hrel
          have HSr := Lib.hid hst
          have Cr := Lib.hid hbw
          clear hst hbw
          have f0 := HSr.out.out.c0
          have f1 := HSr.out.out.c1
          have f2 := HSr.out.out.c2
          have f3 := HSr.out.out.c3
          by_cases hlt : j < x.n
          · have hlo := HLO.out j hlt
            rw [← crTo_at ds j] at hlo
            obtain ⟨b, cb, hcr⟩ := cr_any HSr.out hlt hlo (by omega)
            rw [crTo_succ] at hcr
            have HCR := Lib.hid hcr
            have q1 : (j : Int) < (x.n : Int) := by omega
            clear hcr hlo
            go_wp2_with fail
            refine HCR.out.mono ?_
            rintro e w7 ⟨rfl, h7, c7⟩
            have HS7 := Lib.hid h7
            have C7 := Lib.hid (Cr.out.trans c7)
            clear h7 c7 cb f0 f1 f2 f3
            go_wp2
            go_roundw
            case rel => exact ⟨j + 1, by omega, by go_num, HS7.out, C7.out⟩
            case measure => simp [intOf]; omega
          · obtain rfl : j = x.n := by omega
            have K7 := Lib.hid (K2.out.next Cr.out)
            have p0 := K7.out.p0
            have p1 := K7.out.p1
            have hz4 := HB.out.z4
            have hszz := HSZ.out
            have q4 : Int.tdiv (s.size : Int) 64 = (z' : Int) := by rw [Int.tdiv_eq_ediv_of_nonneg (by omega)]; omega
            have HRW := Lib.hid (raw_ok HSr.out k' t' z' HB.out)
            have hE : rawL (crTo ds x.n) (fun _ => false) (colsOf l k' t' z') = encOf l k' t' z' s := by
              rw [← HDS.out]
              exact raw_crash HP.out (HB.out.apartN HSr.out.right.2) _ rfl (zeroDv_len HR.out.s0)
            rw [hE] at HRW
            obtain ⟨hfi, hba⟩ := HB.out.whole HSZ.out
            have HFI := Lib.hid hfi
            have HBA := Lib.hid hba
            have hEl : (encOf l k' t' z' s).length ≤ 32 := by rw [encOf_len]; exact HB.out.laid.few
            unfold Px.val at HRW
            clear hE hfi hba hszz
            go_wp2_with fail
            refine HRW.out.mono ?_
            rintro e w8 ⟨v8, rfl, hO8, c8⟩
            generalize encOf l k' t' z' s = E at *
            have HO8 := Lib.hid hO8
            have C8 := Lib.hid (Cr.out.trans (c8.mono Cr.out.size))
            have K8 := Lib.hid (K2.out.next C8.out)
            clear hO8 c8 f0 f1 f2 f3 p0 p1
            obtain ⟨a8, n8, e8, -⟩ := HO8.out.txt
            subst e8
            have k0 := K8.out.h.c0
            have k1 := K8.out.h.c1
            have p0 := K8.out.p0
            have p1 := K8.out.p1
            go_wp2_with fail
            refine (bad_any l x.sc _ _ K8.out.h.m k' t' HI.out HT.out s HS1.out E _ HO8.out.txt (by omega)).mono ?_
            rintro e w9 ⟨v9, rfl, hO9, c9⟩
            rw [HBA.out] at hO9
            obtain ⟨a9, n9, cc9, rfl, hn9, -⟩ := hO9.v
            have hn9' : 0 = n9 := hn9
            subst hn9'
            have K9 := Lib.hid (K8.out.next c9)
            have HO9 := Lib.hid (HO8.out.below c9)
            clear hO9 hn9 c9 k0 k1 p0 p1
            have k0 := K9.out.h.c0
            have k1 := K9.out.h.c1
            have p0 := K9.out.p0
            have p1 := K9.out.p1
            go_wp2_with fail
            refine (fits_any l x.sc _ _ K9.out.h.m k' t' z' HI.out HT.out ⟨by omega, by omega⟩ E _ HO9.out.txt (by omega)).mono ?_
            rintro e w10 ⟨rfl, c10⟩
            rw [HFI.out]
            have HFF := Lib.hid (next K9.out.h.below c10)
            go_wp2
            go_ret
            exact ⟨rfl, HFF.out⟩
  · have HFF := Lib.hid K2.out.h.below
    by_cases hs1 : s.size ≤ 1000
    · have d1 : decide (1000 < (s.size : Int)) = false := by rw [decide_eq_false_iff_not]; omega
      by_cases hu1 : u.size ≤ 1000
      · have d2 : decide (1000 < (u.size : Int)) = false := by rw [decide_eq_false_iff_not]; omega
        have d3 : ((s.size : Int) == (u.size : Int)) = false := by rw [beq_eq_false_iff_ne]; intro e; exact hgo ⟨hs1, hu1, by omega⟩
        have d4 : ((s.size : Int) != (u.size : Int)) = true := by unfold bne; rw [d3]; rfl
        clear hgo
        go_wp2_with fail
        refine (awake8 _).mono ?_
        rintro e w4 ⟨rfl, c4⟩
        go_wp2
        go_ret
        exact ⟨rfl, next HFF.out c4⟩
      · have d2 : decide (1000 < (u.size : Int)) = true := by rw [decide_eq_true_iff]; omega
        clear hgo
        go_wp2_with fail
        refine (awake8 _).mono ?_
        rintro e w4 ⟨rfl, c4⟩
        go_wp2
        go_ret
        exact ⟨rfl, next HFF.out c4⟩
    · have d1 : decide (1000 < (s.size : Int)) = true := by rw [decide_eq_true_iff]; omega
      clear hgo
      go_wp2_with fail
      refine (awake8 _).mono ?_
      rintro e w4 ⟨rfl, c4⟩
      go_wp2
      go_ret
      exact ⟨rfl, next HFF.out c4⟩
end Go.Proofs.Ytlhnmcopioeboaa
