/-
  The walk of polderlaw07.CodePlays: it returns true, and writes nothing that was there.
-/
import Derived.Test.YtpalgadokdcgnaaRf
import Derived.Test.YtpalgadokdcgnaaRc
import Derived.Test.YtpalgadokdcgnaaRe
import Derived.Deep.DeepCutAuto
namespace Go.Proofs.Ytpalgadokdcgnaa
set_option maxRecDepth 100000
open Go.RowKit Go.Shelf M
attribute [local go_sem] Oper.semAt_some

/-- A function that told its answer in the box at b, behind a range over a function. -/
theorem told_box {w X : World} {D b : Nat} {x : Bool} (hw : w.heap.size ≤ b) (hD : b < D) (hB : Below w.heap.size w X) (hr : X.cell? ⟨b, 0, none⟩ = some (.bool false)) (hK : X.heap[D]? = some (.deferred (some []))) :
    (X.setCell ⟨b, 0, none⟩ (.bool x)).heap[D]? = some (.deferred (some [])) ∧ Below w.heap.size w ((X.setCell ⟨b, 0, none⟩ (.bool x)).putObj D (.deferred none)) ∧ ((X.setCell ⟨b, 0, none⟩ (.bool x)).putObj D (.deferred none)).cell? ⟨b, 0, none⟩ = some (.bool x) := by
  have h1 : (X.setCell ⟨b, 0, none⟩ (.bool x)).heap[D]? = some (.deferred (some [])) := (Below.heap_setCell _ _ _ _ (by show D ≠ b; omega)).trans hK
  have h2 : Below w.heap.size w (X.setCell ⟨b, 0, none⟩ (.bool x)) := hB.setCell (p := ⟨b, 0, none⟩) hw _
  refine ⟨h1, below_putObj h2 (by omega) _, ?_⟩
  rw [(below_putObj (Below.refl D _) (Nat.le_refl D) (.deferred none)).cell (p := ⟨b, 0, none⟩) hD, World.cell?_setCell_same _ _ _ hr]

theorem triesOf_len (l : List (Int × Int)) (sc k t z : Int) (G : List ByteArray) : (triesOf l sc k t z G).length ≤ 40 := by
  unfold triesOf
  split
  · rename_i hf
    unfold fitsL at hf
    simp only [Bool.and_eq_true, decide_eq_true_iff] at hf
    obtain ⟨k', t', z', rfl, rfl, rfl, hB⟩ := mayL_iff.1 hf.1.1
    show (triesB l k' t' z' G).length ≤ 40
    unfold triesB
    split
    · unfold triesM
      refine Nat.le_trans (List.length_filterMap_le _ _) ?_
      rw [List.length_range]
      obtain ⟨kk, u, hK⟩ := hB.kinded
      rw [hK.grp]
      show (u : Int).toNat ≤ 40
      rcases hK.ok with ⟨_, _, h8, _⟩ | ⟨_, _, h8, _⟩ <;> omega
    · unfold triesP
      refine Nat.le_trans (List.length_filterMap_le _ _) ?_
      rw [List.length_cons]
      have h1 := devsS_le ((datL (colsOf l k' t' z')).map C.dev)
      rw [List.length_map] at h1
      have h2 : (datL (colsOf l k' t' z')).length ≤ (colsOf l k' t' z').length := by unfold datL; exact List.length_filter_le _ _
      have h3 := hB.laid.few
      omega
  · exact Nat.zero_le _

set_option maxHeartbeats 16000000 in
theorem walk_CodePlays (v : Value) (l : List (Int × Int)) (sc k t : Int) (s : ByteArray) (sz : Int) (aG : Option Addr) (nG cG : Nat) (st : Int) (w : World) (h : Meas w v l sc) (hk : I64 k) (ht : I64 t) (hs : s.size ≤ maxLen) (hsz : (Lit.int .i64 sz).wf = true)
    (ho : ∃ o : List ByteArray, Txt w (.slice aG nG cG) o ∧ nG ≤ maxLen ∧ ∀ s ∈ o, s.size ≤ maxLen) (hst : (Lit.int .u8 st).wf = true) :
    Calls Try.prog 5 #[v, .agg #[.int .i64 k, .int .i64 t], .string s, .int .i64 sz, .slice aG nG cG, .int .u8 st] w fun e w' => e = .returned (.bool true) ∧ Below w.heap.size w w' := by
  obtain ⟨st0, st1⟩ : 0 ≤ st ∧ st ≤ 255 := by simpa [Lit.wf, IntKind.min, IntKind.max, IntKind.signed, IntKind.bits] using hst
  have hz := bounds_i64 hsz
  obtain ⟨G, hG, hnG, hGz⟩ := ho
  clear hst hsz
  have K1 := h
  obtain ⟨a, n, c, rfl, hg⟩ := id h
  replace K1 := Lib.hid (HX.start k t (.int .u8 st) 5 K1)
  have HI := Lib.hid hk
  have HT := Lib.hid ht
  have HZ := Lib.hid hz
  have HG := Lib.hid hG
  have HGL := Lib.hid hG.len
  have HGZ := Lib.hid hGz
  have HNG := Lib.hid hnG
  obtain ⟨zz0, zz1⟩ := hz
  unfold maxLen at hs hnG
  clear h hg hk ht hG hGz
  refine (callsIn_wide (n := 5)).1 ?_
  refine callsIn_of_wp_marks Try.func5 rfl trivial (wpIn_wide.2 ?_) rfl
  simp only [Try.ntmps5, List.size_toArray, List.length_cons, List.length_nil, Nat.reduceAdd, Nat.reduceSub, Array.replicate_succ, Array.replicate_zero, List.push_toArray, List.append_toArray, List.nil_append, List.cons_append]
  go_wp2_with fail
  refine (cawake_any _).mono ?_
  rintro e w1 ⟨rfl, c1⟩
  have K2 := Lib.hid (K1.out.next c1)
  clear c1 K1
  have k0 := K2.out.h.h.c0
  have k1 := K2.out.h.h.c1
  go_wp2_with fail
  refine (cfew_any l sc _ _ K2.out.h.h.m G _ (HG.out.below K2.out.h.h.below) (by rw [HGL.out]; exact HNG.out) HGZ.out).mono ?_
  rintro e w2 ⟨v2, rfl, ⟨b, rfl, hfew⟩, c2⟩
  have K3 := Lib.hid (K2.out.next c2)
  clear c2 K2 k0 k1
  by_cases hgo : b = true ∧ s.size ≤ 1000
  · obtain ⟨rfl, hs1⟩ := hgo
    obtain ⟨hl100, hz1000⟩ := hfew rfl
    rw [HGL.out] at hl100
    have HZO := Lib.hid hz1000
    clear hfew hz1000
    have k0 := K3.out.h.h.c0
    have k1 := K3.out.h.h.c1
    have p0 := K3.out.h.p0
    have p1 := K3.out.h.p1
    go_wp2_with fail
    refine (encode_any l sc _ _ K3.out.h.h.m k t HI.out HT.out s hs1).mono ?_
    rintro e w4 ⟨v4, er, rfl, he, c4⟩
    have K4 := Lib.hid (K3.out.next c4)
    clear c4 k0 k1 p0 p1 K3
    obtain ⟨zs, hzs⟩ : ∃ zs, s.size / 64 = zs := ⟨_, rfl⟩
    have hzs1 : zs ≤ 1000 := by omega
    have q4 : Int.tdiv (s.size : Int) 64 = (zs : Int) := by rw [Int.tdiv_eq_ediv_of_nonneg (by omega)]; omega
    have HZS := Lib.hid hzs
    have HTM : Hid ((textB s.size && mayL l sc k t (zs : Int)) = mayT l sc k t s.size) := Lib.hid (by rw [← hzs]; exact text_may l sc k t s.size)
    obtain ⟨a4, n4, cc4, e4⟩ : ∃ a n c, v4 = .slice a n c := by
      rcases he with ⟨_, rfl, _⟩ | ⟨_, _, _, _, _, _, _, _, hO⟩
      · exact ⟨_, _, _, rfl⟩
      · obtain ⟨a, c, e, _⟩ := hO.txt
        exact ⟨_, _, _, e⟩
    subst e4
    have HEN := Lib.hid he
    have HER : Hid ((mayT l sc k t s.size = true ∧ er = 0) ∨ (mayT l sc k t s.size = false ∧ er = 1 ∧ n4 = 0)) := Lib.hid (by
      rcases he with ⟨h1, h2, h3⟩ | ⟨k', t', z', h1, h2, h3, h4, h5, _⟩
      · cases h2; exact .inr ⟨h1, h3, rfl⟩
      · exact .inl ⟨mayT_iff.2 ⟨k', t', z', h1, h2, h3, h4⟩, h5⟩)
    obtain ⟨mb, hmb⟩ : ∃ mb, mayT l sc k t s.size = mb := ⟨_, rfl⟩
    have HMB := Lib.hid hmb
    have her : (mb = true ∧ er = 0) ∨ (mb = false ∧ er = 1 ∧ n4 = 0) := by rw [← hmb]; exact HER.out
    clear he hzs hmb HER
    obtain ⟨fb, hfb⟩ : ∃ fb, fitsL l sc k t sz G = fb := ⟨_, rfl⟩
    have HFB := Lib.hid hfb
    clear hfb
    go_upto_region 4 with (fail)
    go_cut [15] from 45 to 54 (fun s15 wc => s15 = .bool mb ∧ Hid (Below w4.heap.size w4 wc))
    case first =>
      have k0 := K4.out.h.h.c0
      have k1 := K4.out.h.h.c1
      have p0 := K4.out.h.p0
      have p1 := K4.out.h.p1
      cases htb : textB s.size with
      | false =>
        have hm0 : mb = false := by rw [← HMB.out, ← HTM.out, htb]; rfl
        subst hm0
        go_wp2_with fail
        refine (refText_any s _ hs1).mono ?_
        rintro e w5 ⟨rfl, rfl⟩
        rw [htb]
        go_wp2
        go_meet
        exact ⟨rfl, Lib.hid (Below.refl _ _)⟩
      | true =>
        have hm0 : mayL l sc k t (zs : Int) = mb := by rw [← HMB.out, ← HTM.out, htb]; rfl
        have HMA := Lib.hid (may_any l sc _ w4 K4.out.h.h.m k t (zs : Int) HI.out HT.out ⟨by omega, by omega⟩ mb hm0)
        clear hm0
        go_wp2_with fail
        refine (refText_any s _ hs1).mono ?_
        rintro e w5 ⟨rfl, rfl⟩
        rw [htb]
        go_wp2_with fail
        refine HMA.out.mono ?_
        rintro e w6 ⟨rfl, c6⟩
        go_wp2
        go_meet
        exact ⟨rfl, Lib.hid c6⟩
    case rest =>
      obtain ⟨rfl, HB5⟩ := hcut
      generalize hw5 : wc = w5 at *
      clear hw5
      have K5 := Lib.hid (K4.out.next HB5.out)
      go_upto_region 5 with (fail)
      go_cut [84] from 55 to 84 (fun s84 wc => s84 = .bool false ∧ Hid (Below w5.heap.size w5 wc))
      case first =>
        have CF1 : Hid (∀ q : Ext w5, Calls Try.prog 15 #[.agg #[.slice a n c, .int .i64 sc], .agg #[.int .i64 k, .int .i64 t], .int .i64 sz, .slice aG nG cG] q.v fun e w' => e = .returned (.bool fb) ∧ ∃ q' : Ext w5, w' = q'.v) :=
          Lib.hid (Ext.calls fun w' hb => by rw [← HFB.out]; exact fits_any l sc _ _ (K5.out.next hb).h.h.m k t sz HI.out HT.out HZ.out G _ (HG.out.below (K5.out.next hb).h.h.below) (by rw [HGL.out]; omega))
        have CF2 : Hid (∀ q : Ext w5, Calls Try.prog 18 #[.agg #[.slice a n c, .int .i64 sc], .agg #[.int .i64 k, .int .i64 t], .int .i64 sz, .slice aG nG cG] q.v fun e w' => e = .returned (.bool fb) ∧ ∃ q' : Ext w5, w' = q'.v) :=
          Lib.hid (Ext.calls fun w' hb => by rw [← HFB.out]; exact refFits_any l sc _ _ (K5.out.next hb).h.h.m k t sz HI.out HT.out HZ.out G _ (HG.out.below (K5.out.next hb).h.h.below) (by rw [HGL.out]; omega) (fun s hs => Nat.le_trans (HZO.out s hs) (by decide)))
        have g0 := fun q : Ext w5 => q.cell K5.out.h.h.c0 K5.out.h.h.lt
        have g1 := fun q : Ext w5 => q.cell K5.out.h.h.c1 K5.out.h.h.lt
        have g2 := fun q : Ext w5 => q.cell K5.out.h.p0 K5.out.h.plt
        have g3 := fun q : Ext w5 => q.cell K5.out.h.p1 K5.out.h.plt
        haveI hne : Nonempty (Ext w5) := Ext.some w5
        have hff : (fb != fb) = false := by simp
        rcases her with ⟨rfl, rfl⟩ | ⟨rfl, rfl, rfl⟩
        · refine wp_region_family (Ext.v (W := w5)) (by kernel_rfl) (by kernel_rfl) ⟨⟨_, (Below.refl _ w5).drew⟩, rfl⟩ ?_
          repeat (go_big_quiet_step (first | (go_at_call 15; exact CF1.out _) | (go_at_call 18; exact CF2.out _)))
          refine wpQuiet_nil ?_
          rintro w7 ⟨⟨w8, h8⟩, e8⟩
          have e8' : w8 = w7 := e8.symm
          clear e8
          subst e8'
          go_wp2_with fail
          go_meet
          exact ⟨rfl, Lib.hid h8⟩
        · refine wp_region_family (Ext.v (W := w5)) (by kernel_rfl) (by kernel_rfl) ⟨⟨_, (Below.refl _ w5).drew⟩, rfl⟩ ?_
          repeat (go_big_quiet_step (first | (go_at_call 15; exact CF1.out _) | (go_at_call 18; exact CF2.out _)))
          refine wpQuiet_nil ?_
          rintro w7 ⟨⟨w8, h8⟩, e8⟩
          have e8' : w8 = w7 := e8.symm
          clear e8
          subst e8'
          go_wp2_with fail
          go_meet
          exact ⟨rfl, Lib.hid h8⟩
      case rest =>
        obtain ⟨rfl, HB6⟩ := hcut
        generalize hw6 : wc = w6 at *
        clear hw6
        have K6 := Lib.hid (K5.out.next HB6.out)
        go_upto_if 85 with (fail)
        go_cut [16, 17, 18, 19] from 86 to 150 (fun _ _ _ _ wc => Hid (Below w6.heap.size w6 wc))
        case first =>
          rcases her with ⟨rfl, rfl⟩ | ⟨rfl, rfl, rfl⟩
          · rcases HEN.out with ⟨h1, -⟩ | ⟨k', t', z', rfl, rfl, hsz, hB, -, hO4⟩
            · rw [HMB.out] at h1
              cases h1
            · obtain ⟨kk, u, hE⟩ := hB.enc7 hsz
              rw [hE.enc] at hO4
              generalize hL : colsOf l k' t' z' = L at hE hO4
              generalize (fun i => sect s (i % z')) = f at hE hO4
              obtain ⟨hm0, hm32⟩ := hE.few
              have hEl := encL_len L f
              obtain ⟨m, hm⟩ : ∃ m, L.length = m := ⟨_, rfl⟩
              rw [hm] at hm0 hm32 hEl
              obtain rfl : zs = z' := by have := HZS.out; omega
              obtain ⟨ff, hff⟩ : ∃ ff, fitsL l sc k' t' zs G = ff := ⟨_, rfl⟩
              have HFF := Lib.hid hff
              have HFL : Hid (ff = true → nG = m) := Lib.hid fun h => by
                rw [← hff] at h
                unfold fitsL at h
                simp only [Bool.and_eq_true, decide_eq_true_iff] at h
                rw [← HGL.out, ← h.1.2, ← hm, ← hL]
                rfl
              have HBO : Hid (badOf l sc k' t' s G = if ff then badL (encL L f) G m else []) := Lib.hid (by
                unfold badOf
                rw [HMB.out, HZS.out, hff, Bool.true_and]
                show (if ff = true then badL (encOf l k' t' zs s) G (encOf l k' t' zs s).length else []) = _
                rw [hE.enc, hEl])
              have HRE := Lib.hid (refEncode_any l sc _ w6 K6.out.h.h.m k' t' zs s kk u L f hE)
              have HEL := Lib.hid hEl
              have hn4 : m = n4 := by rw [← hEl]; exact hO4.txt.len
              subst hn4
              obtain ⟨g4, rfl, _, hg4, _, hcc4, _, hcl4⟩ := hO4.at_ (by omega)
              have HC4 : Hid (∀ j (h : j < (encL L f).length), w6.cell? ⟨g4, j, none⟩ = some (.string (encL L f)[j])) := Lib.hid fun j h => by
                rw [HB6.out.cell (p := ⟨g4, j, none⟩) (Nat.lt_of_lt_of_le hg4 HB5.out.size), HB5.out.cell (p := ⟨g4, j, none⟩) hg4]; exact hcl4 j h
              have hg46 : g4 < w6.heap.size := Nat.lt_of_lt_of_le hg4 (Nat.le_trans HB5.out.size HB6.out.size)
              generalize encL L f = E at HBO HRE HEL HC4
              clear hO4 hcl4 hE hB hL hm hEl hff hsz
              have k0 := K6.out.h.h.c0
              have k1 := K6.out.h.h.c1
              have p0 := K6.out.h.p0
              have p1 := K6.out.h.p1
              go_wp2_with fail
              refine HRE.out.mono ?_
              rintro e w7 ⟨v7, rfl, hO7, c7⟩
              obtain ⟨a7, cc7, e7, -⟩ := hO7.txt
              rw [HEL.out] at e7
              subst e7
              obtain ⟨g7, rfl, _, hg7, _, hcc7, _, hcl7⟩ := hO7.at_ (by omega)
              have HC7 := Lib.hid hcl7
              have K7 := Lib.hid (K6.out.next c7)
              have HB7 := Lib.hid c7
              clear hO7 hcl7 c7 k0 k1 p0 p1
              have k0 := K7.out.h.h.c0
              have k1 := K7.out.h.h.c1
              have p0 := K7.out.h.p0
              have p1 := K7.out.h.p1
              go_wp2_with fail
              refine (bad_any l sc _ _ K7.out.h.h.m k' t' HI.out HT.out s hs1 G _ (HG.out.below K7.out.h.h.below) (by rw [HGL.out]; omega)).mono ?_
              rintro e w8 ⟨v8, rfl, hO8, c8⟩
              rw [HBO.out] at hO8
              have HB8 := Lib.hid (next HB7.out c8)
              have K8 := Lib.hid (K7.out.next c8)
              have HC8 : Hid (∀ j (h : j < E.length), w8.cell? ⟨g7, j, none⟩ = some (.string E[j])) := Lib.hid fun j h => by rw [c8.cell (p := ⟨g7, j, none⟩) hg7]; exact HC7.out j h
              have HC48 : Hid (∀ j (h : j < E.length), w8.cell? ⟨g4, j, none⟩ = some (.string E[j])) := Lib.hid fun j h => by rw [HB8.out.cell (p := ⟨g4, j, none⟩) hg46]; exact HC4.out j h
              have hg78 : g7 < w8.heap.size := Nat.lt_of_lt_of_le hg7 c8.size
              have hg48 : g4 < w8.heap.size := Nat.lt_of_lt_of_le hg46 HB8.out.size
              obtain ⟨bl, hbl⟩ : ∃ bl, (if ff then badL E G m else []) = bl := ⟨_, rfl⟩
              rw [hbl] at hO8
              have HBL := Lib.hid hbl
              obtain ⟨a8, nb, cc8, rfl, hnb, hncb, hj8⟩ := hO8.v
              have HJ8 := Lib.hid hj8
              have HNB := Lib.hid hnb
              have hnb32 : nb ≤ 32 := by
                rw [← hnb, ← hbl]
                split
                · exact Nat.le_trans (badL_len _ _ _) hm32
                · simp
              clear hO8 c8 k0 k1 p0 p1 hj8 hnb hbl K7 K6
              go_wp2_with fail
              go_loopw [18, 19] (fun t18 i19 wr => ∃ i q : Nat, i ≤ m ∧ q ≤ i ∧ t18 = .int .i64 (q : Int) ∧ i19 = .int .i64 (i : Int) ∧ Hid (q = if ff then (badL E G i).length else 0) ∧ Hid (Below w8.heap.size w8 wr)) (fun _ i _ => m - (intOf i).toNat)
              case atStart => exact ⟨0, 0, Nat.zero_le _, Nat.le_refl _, rfl, rfl, Lib.hid (by cases ff <;> rfl), Lib.hid (Below.refl _ _)⟩
              case round =>
                obtain ⟨i, q, hi, hqi, rfl, rfl, HQ, HW⟩ := hrel
                have hsr := HW.out.size
                by_cases him : i < m
                · have hiE : i < E.length := by rw [HEL.out]; exact him
                  obtain ⟨y, hy⟩ : ∃ y, E[i] = y := ⟨_, rfl⟩
                  have hy4 := (HW.out.cell (p := ⟨g4, i, none⟩) hg48).trans (HC48.out i hiE)
                  have hy7 := (HW.out.cell (p := ⟨g7, i, none⟩) hg78).trans (HC8.out i hiE)
                  rw [hy] at hy4 hy7
                  have HEY : Hid (E.getD i ⟨#[]⟩ = y) := Lib.hid (getD_some ⟨hiE, hy⟩)
                  have hg4r : g4 < wr.heap.size := by omega
                  have hg7r : g7 < wr.heap.size := by omega
                  have hqq : (y.toList == y.toList) = true := by simp
                  have hqn : (y.toList != y.toList) = false := by unfold bne; rw [hqq]; rfl
                  clear hy hiE
                  obtain ⟨bx, hbx⟩ : ∃ bx, (ff && neB (G.getD i ⟨#[]⟩) (E.getD i ⟨#[]⟩)) = bx := ⟨_, rfl⟩
                  have HBX := Lib.hid hbx
                  clear hbx
                  go_wp2_with fail
                  go_quiet (fail)
                  have HWQ := Lib.hid (below_drewN HW.out nq)
                  have hsq : wr.heap.size = (wr.drewN nq).heap.size := by simp
                  have hy7q := ((below_drewN (Below.refl wr.heap.size wr) nq).cell (p := ⟨g7, i, none⟩) hg7r).trans hy7
                  generalize wr.drewN nq = wq at *
                  have K9 := Lib.hid (K8.out.next HWQ.out)
                  have hg7q : g7 < wq.heap.size := by omega
                  clear hy4 hy7
                  go_upto_region 18 with (fail)
                  go_cut [132] from 115 to 132 (fun s132 wc => s132 = .bool bx ∧ Hid (Below wq.heap.size wq wc))
                  case first =>
                    have CF : Hid (∀ q : Ext wq, Calls Try.prog 18 #[.agg #[.slice a n c, .int .i64 sc], .agg #[.int .i64 (k' : Int), .int .i64 (t' : Int)], .int .i64 (zs : Int), .slice aG nG cG] q.v fun e w' => e = .returned (.bool ff) ∧ ∃ q' : Ext wq, w' = q'.v) :=
                      Lib.hid (Ext.calls fun w' hb => by rw [← HFF.out]; exact refFits_any l sc _ _ (K9.out.next hb).h.h.m k' t' zs HI.out HT.out ⟨by omega, by omega⟩ G _ (HG.out.below (K9.out.next hb).h.h.below) (by rw [HGL.out]; omega) (fun s hs => Nat.le_trans (HZO.out s hs) (by decide)))
                    have g0 := fun q : Ext wq => q.cell K9.out.h.h.c0 K9.out.h.h.lt
                    have g1 := fun q : Ext wq => q.cell K9.out.h.h.c1 K9.out.h.h.lt
                    have g2 := fun q : Ext wq => q.cell K9.out.h.p0 K9.out.h.plt
                    have g3 := fun q : Ext wq => q.cell K9.out.h.p1 K9.out.h.plt
                    have g4' := fun q : Ext wq => q.cell hy7q hg7q
                    haveI hne : Nonempty (Ext wq) := Ext.some wq
                    cases ff with
                    | false =>
                      obtain rfl : false = bx := HBX.out
                      refine wp_region_family (Ext.v (W := wq)) (by kernel_rfl) (by kernel_rfl) ⟨⟨_, (Below.refl _ wq).drew⟩, rfl⟩ ?_
                      repeat (go_big_quiet_step (first | (go_at_call 18; exact CF.out _)))
                      refine wpQuiet_nil ?_
                      rintro wx ⟨⟨wy, h8⟩, e8⟩
                      have e8' : wy = wx := e8.symm
                      clear e8
                      subst e8'
                      go_wp2_with fail
                      go_meet
                      exact ⟨rfl, Lib.hid h8⟩
                    | true =>
                      have hnm : nG = m := HFL.out rfl
                      have hiG : i < G.length := by rw [HGL.out]; omega
                      obtain ⟨gG, oG, cG', eG, hcG, hgG, hjG⟩ := HG.out.isSome (by omega)
                      rw [HGL.out] at eG hcG
                      cases eG
                      obtain ⟨x, hx⟩ : ∃ x, G[i] = x := ⟨_, rfl⟩
                      have hxc := (K9.out.h.h.below.cell (p := ⟨gG, oG + i, none⟩) hgG).trans (hjG i hiG)
                      rw [hx] at hxc
                      have hbx : neB x y = bx := by
                        rw [← HBX.out, Bool.true_and, getD_some ⟨hiG, hx⟩, HEY.out]
                      have hxy : (x.toList == y.toList) = !bx := by rw [← hbx]; unfold neB; simp
                      have hxy2 : (x.toList != y.toList) = bx := by unfold bne; rw [hxy]; simp
                      have g5 := fun q : Ext wq => q.cell hxc (Nat.lt_of_lt_of_le hgG K9.out.h.h.below.size)
                      clear hx hbx hjG hiG
                      subst hnm
                      refine wp_region_family (Ext.v (W := wq)) (by kernel_rfl) (by kernel_rfl) ⟨⟨_, (Below.refl _ wq).drew⟩, rfl⟩ ?_
                      repeat (go_big_quiet_step (first | (go_at_call 18; exact CF.out _)))
                      refine wpQuiet_nil ?_
                      rintro wx ⟨⟨wy, h8⟩, e8⟩
                      have e8' : wy = wx := e8.symm
                      clear e8
                      subst e8'
                      go_wp2_with fail
                      go_meet
                      exact ⟨rfl, Lib.hid h8⟩
                  case rest =>
                    obtain ⟨rfl, HB9⟩ := hcut
                    generalize hwz : wc = wz at *
                    clear hwz
                    have HWZ := Lib.hid (next HWQ.out HB9.out)
                    have HBI : Hid ((if ff then (badL E G (i + 1)).length else 0) = (if ff then (badL E G i).length else 0) + if bx then 1 else 0) := Lib.hid (by
                      have := HBX.out
                      cases ff with
                      | false => rw [← this]; rfl
                      | true =>
                        rw [Bool.true_and] at this
                        cases bx with
                        | false => rw [if_pos rfl, if_pos rfl, badL_no this]; rfl
                        | true => rw [if_pos rfl, if_pos rfl, badL_yes this, List.length_append]; rfl)
                    cases bx with
                    | false =>
                      go_wp2
                      go_roundw
                      case rel => exact ⟨i + 1, q, by omega, by omega, rfl, by go_num, Lib.hid (by rw [HBI.out, ← HQ.out]; rfl), HWZ⟩
                      case measure => simp [intOf]; omega
                    | true =>
                      have hft : ff = true ∧ neB (G.getD i ⟨#[]⟩) (E.getD i ⟨#[]⟩) = true := by simpa using HBX.out
                      have hat := badL_at (E := E) (G := G) him hft.2
                      have hqv : q = (badL E G i).length := by rw [HQ.out, hft.1]; rfl
                      have hbl : badL E G m = bl := by rw [← HBL.out, hft.1]; rfl
                      rw [← hqv, hbl] at hat
                      obtain ⟨hqb, hqe⟩ := List.getElem?_eq_some_iff.1 hat
                      have hqn : q < nb := by rw [← HNB.out]; exact hqb
                      obtain ⟨g8, rfl, hg8, hc8⟩ := HJ8.out q hqb
                      rw [hqe] at hc8
                      have hc8z := (HWZ.out.cell (p := ⟨g8, q, none⟩) hg8).trans hc8
                      clear hft hat hqv hbl hqb hqe hc8
                      go_wp2
                      go_roundw
                      case rel => exact ⟨i + 1, q + 1, by omega, by omega, by go_num, by go_num, Lib.hid (by rw [HBI.out, ← HQ.out]; rfl), HWZ⟩
                      case measure => simp [intOf]; omega
                · obtain rfl : i = m := by omega
                  have HQN : Hid (q = nb) := Lib.hid (by
                    rw [HQ.out, ← HNB.out, ← HBL.out]
                    cases ff <;> rfl)
                  obtain rfl := HQN.out
                  go_wp2
                  go_meet
                  exact Lib.hid (next HB8.out HW.out)
          · go_wp2
            go_meet
            exact Lib.hid (Below.refl _ _)
        case rest =>
          generalize hw7 : wc = w7 at *
          clear hw7
          have HB7 := hcut
          have K7 := Lib.hid (K6.out.next HB7.out)
          clear HB7 hcut HEN her HMB HTM K4 K5 K6
          obtain ⟨xs, hxs⟩ : ∃ xs, triesOf l sc k t sz G = xs := ⟨_, rfl⟩
          have HXS := Lib.hid hxs
          have HXL : Hid (xs.length ≤ 40) := Lib.hid (by rw [← hxs]; exact triesOf_len l sc k t sz G)
          clear hxs
          have b8 := boxed w7 (.cells #[.slice none 0 0] 53)
          have K8 := Lib.hid (K7.out.next b8)
          have k0 := K8.out.h.h.c0
          have k1 := K8.out.h.h.c1
          have p0 := K8.out.h.p0
          have p1 := K8.out.h.p1
          have hwc : (w7.alloc (.cells #[.slice none 0 0] 53)).cell? ⟨w7.heap.size, 0, none⟩ = some (.slice none 0 0) := box_now _ _ _ rfl
          have hwf : (w7.alloc (.cells #[.slice none 0 0] 53)).frozen? ⟨w7.heap.size, 0, none⟩ = false := World.frozen?_alloc_at _ _ _ _ rfl
          have HB8 := Lib.hid b8
          clear b8
          go_wp2_with fail
          refine (refFits_any l sc _ _ K8.out.h.h.m k t sz HI.out HT.out HZ.out G _ (HG.out.below K8.out.h.h.below) (by rw [HGL.out]; omega) (fun s hs => Nat.le_trans (HZO.out s hs) (by decide))).mono ?_
          rintro e w9 ⟨rfl, c9⟩
          rw [HFB.out]
          have K9 := Lib.hid (K8.out.next c9)
          have hs9 := c9.size
          rw [World.size_alloc] at hs9
          have hwc9 := (c9.cell (p := ⟨w7.heap.size, 0, none⟩) (by simp)).trans hwc
          have hwf9 := (c9.frozen (p := ⟨w7.heap.size, 0, none⟩) (by simp)).trans hwf
          have HB9 : Hid (Below w7.heap.size w7 w9) := Lib.hid (next HB8.out c9)
          have hlt7 := K7.out.lt
          clear c9 k0 k1 p0 p1 hwc hwf K8 HB8
          go_upto_if 155 with (fail)
          go_cut [156] from 156 to 160 (fun _ wc => ∃ vs, Hid (HX w wc a n c sc l k t (.int .u8 st)) ∧ Hid (wc.cell? ⟨w7.heap.size, 0, none⟩ = some vs) ∧ Hid (TryV (w7.heap.size + 1) wc.heap.size wc vs xs) ∧ w7.heap.size < wc.heap.size)
          case first =>
            cases fb with
            | false =>
              have HE0 : Hid (xs = []) := Lib.hid (by rw [← HXS.out]; unfold triesOf; rw [HFB.out]; rfl)
              go_wp2
              go_meet
              exact ⟨_, K9, Lib.hid hwc9, Lib.hid ⟨none, 0, by rw [HE0.out]; rfl, by rw [HE0.out]; exact Nat.le_refl _, fun j hj => absurd hj (by rw [HE0.out]; exact Nat.not_lt_zero _)⟩, by omega⟩
            | true =>
              have hfit := HFB.out
              unfold fitsL at hfit
              simp only [Bool.and_eq_true, decide_eq_true_iff] at hfit
              obtain ⟨⟨hm1, hm2⟩, hm3⟩ := hfit
              obtain ⟨k', t', z', rfl, rfl, rfl, hB⟩ := mayL_iff.1 hm1
              have hE0 : xs = triesB l k' t' z' G := by rw [← HXS.out]; unfold triesOf; rw [HFB.out]; rfl
              have HTR := Lib.hid (refTries_any l sc _ w9 K9.out.h.h.m k' t' z' hB G _ (HG.out.below K9.out.h.h.below) hm2.symm (fun x hx => by
                unfold fitL at hm3
                rw [List.all_eq_true] at hm3
                have := hm3 x hx
                unfold secT at this
                rw [Bool.or_eq_true, beq_iff_eq, beq_iff_eq] at this
                exact this))
              rw [← hE0] at HTR
              have k0 := K9.out.h.h.c0
              have k1 := K9.out.h.h.c1
              have p0 := K9.out.h.p0
              have p1 := K9.out.h.p1
              clear hm1 hm2 hm3 hB hE0
              go_wp2_with fail
              refine HTR.out.mono ?_
              rintro e w10 ⟨v10, rfl, hO10, c10⟩
              have hwc10 := (c10.cell (p := ⟨w7.heap.size, 0, none⟩) (by show w7.heap.size < w9.heap.size; omega)).trans hwc9
              have hwf10 := (c10.frozen (p := ⟨w7.heap.size, 0, none⟩) (by show w7.heap.size < w9.heap.size; omega)).trans hwf9
              have HB10 : Hid (Below w7.heap.size w7 (w10.setCell ⟨w7.heap.size, 0, none⟩ v10)) := Lib.hid ((next HB9.out c10).setCell (p := ⟨w7.heap.size, 0, none⟩) (Nat.le_refl _) _)
              have hs10 := c10.size
              have HTV : Hid (TryV (w7.heap.size + 1) (w10.setCell ⟨w7.heap.size, 0, none⟩ v10).heap.size (w10.setCell ⟨w7.heap.size, 0, none⟩ v10) v10 xs) := Lib.hid ((hO10.tryV.more (by omega) (by simp [World.setCell])).set _ (.inl (by show w7.heap.size < w7.heap.size + 1; omega)) _)
              have HCS : Hid ((w10.setCell ⟨w7.heap.size, 0, none⟩ v10).cell? ⟨w7.heap.size, 0, none⟩ = some v10) := Lib.hid (World.cell?_setCell_same _ _ _ hwc10)
              obtain ⟨a10, c10', e10⟩ := hO10.isSl
              subst e10
              have hsz10 : w7.heap.size < (w10.setCell ⟨w7.heap.size, 0, none⟩ (.slice a10 xs.length c10')).heap.size := by simp [World.setCell]; omega
              clear c10 hO10 k0 k1 p0 p1
              go_wp2
              go_meet
              exact ⟨_, Lib.hid (K7.out.next HB10.out), HCS, HTV, hsz10⟩
          case rest =>
            obtain ⟨vs, KC, HWC, HTV, hcwc⟩ := hcut
            have hlo : w.heap.size + 3 < w7.heap.size := hlt7
            generalize hcw : w7.heap.size = cw at *
            clear hwc9 hwf9 K9 HB9 K7 hs9 hcw
            have b11 := boxed wc (.cells #[.int .i64 0] 3)
            have K11 := Lib.hid (KC.out.next b11)
            have HTR := Lib.hid (tries_any l sc _ _ K11.out.h.h.m k t sz HI.out HT.out HZ.out G _ (HG.out.below K11.out.h.h.below) (by rw [HGL.out]; omega))
            rw [HXS.out] at HTR
            have k0 := K11.out.h.h.c0
            have k1 := K11.out.h.h.c1
            have p0 := K11.out.h.p0
            have p1 := K11.out.h.p1
            have hcn : (wc.alloc (.cells #[.int .i64 0] 3)).cell? ⟨wc.heap.size, 0, none⟩ = some (.int .i64 0) := box_now _ _ _ rfl
            have hcf : (wc.alloc (.cells #[.int .i64 0] 3)).frozen? ⟨wc.heap.size, 0, none⟩ = false := World.frozen?_alloc_at _ _ _ _ rfl
            have HTV11 := Lib.hid (HTV.out.within b11 (Nat.le_refl _))
            have HWC11 := Lib.hid ((b11.cell (p := ⟨cw, 0, none⟩) hcwc).trans HWC.out)
            clear b11 HTV HWC
            go_wp2_with fail
            refine HTR.out.mono ?_
            rintro e w12 ⟨v12, rfl, hS12, c12⟩
            obtain ⟨gf, lb, rfl, eg, hH⟩ := hS12
            rw [World.size_alloc] at c12 hH
            have hs12 := c12.size
            rw [World.size_alloc] at hs12
            have K12 := K11.out.next (by rw [World.size_alloc]; exact c12)
            have HA12 : Hid (PlI w w12 (wc.heap.size + 1) (cw + 1) cw wc.heap.size st vs xs 0 w12) := Lib.hid ⟨Since.refl _ _, K12.h.h.below, K12.tx, K12.r, K12.rf,
              (c12.cell (p := ⟨cw, 0, none⟩) (by show cw < _; omega)).trans HWC11.out, HTV11.out.within c12 (by omega), (c12.cell (p := ⟨wc.heap.size, 0, none⟩) (by show wc.heap.size < _; omega)).trans hcn, (c12.frozen (p := ⟨wc.heap.size, 0, none⟩) (by show wc.heap.size < _; omega)).trans hcf⟩
            have HEG := Lib.hid eg
            have HHH := Lib.hid hH
            generalize wc.heap.size = cn at HA12 HHH hs12 hcwc
            clear eg hH c12 k0 k1 p0 p1 hcn hcf K12 K11 KC HTR HTV11 HWC11
            go_wp2_with fail
            refine (wpIn_wide (n := 5)).1 ?_
            refine wpIn_range_both 166 167 22 23 rfl (by decide) rfl trivial HEG.out (fun x : Int × ByteArray => .int .i64 x.1) (fun x => .string x.2) (HHH.out _ (by decide)) (Since.refl _ _) rfl
              (fun i W => PlI w w12 (cn + 1) (cw + 1) cw cn st vs xs i W)
              (fun cd _ W => cd = .ret ∧ Below w.heap.size w W ∧ W.cell? ⟨w.heap.size + 3, 0, none⟩ = some (.bool true) ∧ w.heap.size + 3 < w12.heap.size)
              (fun i X Y h hb => h.within hb hlo hcwc (by omega))
              (fun cd i X Y h hb => ⟨h.1, h.2.1.trans (hb.mono (by omega)), (hb.cell (p := ⟨w.heap.size + 3, 0, none⟩) h.2.2.2).trans h.2.2.1, h.2.2.2⟩)
              (fun i X h => h.since)
              HA12.out ?assign ?body ?done ?stop
            case assign =>
              intro l y W
              gi_wp2
              exact ⟨rfl, trivial⟩
            case body =>
              intro l i y W hy hL
              simp only [List.setIfInBounds_toArray, List.set_cons_succ, List.set_cons_zero]
              have HL := Lib.hid hL
              have hiX : i < xs.length := (List.getElem?_eq_some_iff.1 hy).1
              have hyx : xs[i] = y := (List.getElem?_eq_some_iff.1 hy).2
              have hx40 := HXL.out
              obtain ⟨av, cv, evs, hcv, hj⟩ := hL.tv
              obtain ⟨g, rfl, hg1, hg2, h0, h1⟩ := hj i hiX
              rw [hyx] at h0 h1
              obtain ⟨X, hX⟩ : ∃ X, xs.length = X := ⟨_, rfl⟩
              have kw := hL.want
              rw [evs, hX] at kw
              rw [hX] at hiX hcv hx40
              have kst : W.cell? ⟨w.heap.size + 1 + 1, 0, none⟩ = some (.int .u8 st) := hL.st_
              have kr : W.cell? ⟨w.heap.size + 1 + 1 + 1, 0, none⟩ = some (.bool false) := hL.r
              have krf : W.frozen? ⟨w.heap.size + 1 + 1 + 1, 0, none⟩ = false := hL.rf
              have kc := hL.cnt
              have kf := hL.cf
              obtain ⟨yd, yt⟩ := y
              dsimp only at h0 h1 ⊢
              have hq1 : (yd != yd) = false := by simp
              have hq2 : (yt.toList == yt.toList) = true := by simp
              have hq3 : (yt.toList != yt.toList) = false := by unfold bne; rw [hq2]; rfl
              have n1 : ¬ cn = w.heap.size + 1 + 1 := by omega
              have n2 : ¬ cn = w.heap.size + 1 + 1 + 1 := by omega
              have HN1 := HL.out.count hlo hcwc (by omega) ((i : Int) + 1) (by omega)
              have kst1 : (W.setCell ⟨cn, 0, none⟩ (.int .i64 ((i : Int) + 1))).cell? ⟨w.heap.size + 1 + 1, 0, none⟩ = some (.int .u8 st) := HN1.st_
              have kr1 : (W.setCell ⟨cn, 0, none⟩ (.int .i64 ((i : Int) + 1))).cell? ⟨w.heap.size + 1 + 1 + 1, 0, none⟩ = some (.bool false) := HN1.r
              have krf1 : (W.setCell ⟨cn, 0, none⟩ (.int .i64 ((i : Int) + 1))).frozen? ⟨w.heap.size + 1 + 1 + 1, 0, none⟩ = false := HN1.rf
              have HNN := Lib.hid HN1
              have hds : decide ((X : Int) ≤ (i : Int)) = false := decide_eq_false (by omega)
              clear hL hy hj hyx hX HN1
              by_cases hst : (i : Int) + 1 = st
              · have hsb : ((i : Int) + 1 == st) = true := beq_iff_eq.2 hst
                clear hst
                gi_wp2
                refine ⟨((Since.refl _ _).setCell (p := ⟨cn, 0, none⟩) (by show cn < _; omega) _).setCell (p := ⟨w.heap.size + 3, 0, none⟩) (by show w.heap.size + 3 < _; omega) _, rfl, HNN.out.below.setCell (p := ⟨w.heap.size + 3, 0, none⟩) (by show w.heap.size ≤ w.heap.size + 3; omega) _, ?_, by omega⟩
                exact World.cell?_setCell_same _ _ _ kr1
              · have hsb : ((i : Int) + 1 == st) = false := beq_eq_false_iff_ne.2 hst
                clear hst
                gi_wp2
                exact ⟨(Since.refl _ _).setCell (p := ⟨cn, 0, none⟩) (by show cn < _; omega) _, HNN.out⟩
            case done =>
              intro D W hD hL hK
              obtain ⟨av, cv, evs, hcv, -⟩ := id hL.tv
              obtain ⟨X, hX⟩ : ∃ X, xs.length = X := ⟨_, rfl⟩
              have hx40 := HXL.out
              have kw := hL.want
              rw [evs, hX] at kw
              have kc := hL.cnt
              rw [hX] at kc hx40
              have kr : W.cell? ⟨w.heap.size + 1 + 1 + 1, 0, none⟩ = some (.bool false) := hL.r
              have krf : W.frozen? ⟨w.heap.size + 1 + 1 + 1, 0, none⟩ = false := hL.rf
              have HBW := Lib.hid hL.below
              have HR := Lib.hid hL.r
              clear hL hX evs hcv
              go_wp2
              obtain ⟨hK', hB', hr'⟩ := told_box (x := true) (show w.heap.size ≤ w.heap.size + 3 by omega) (show w.heap.size + 3 < D by omega) HBW.out HR.out hK
              refine ⟨by simp, .inl ⟨_, _, rfl, run_takeDeferred hK', ?_⟩⟩
              refine ⟨.bool true, ?_, rfl, hB'⟩
              simp [results, Try.f5, go_sem, hr']
            case stop =>
              rintro D cd i W hD _ ⟨rfl, hBW, hrW, hlW⟩ hK
              gi_wp2
              have hB' := below_putObj hBW (show w.heap.size ≤ D by omega) (.deferred none)
              have hr' : (W.putObj D (.deferred none)).cell? ⟨w.heap.size + 3, 0, none⟩ = some (.bool true) := by
                rw [(below_putObj (Below.refl D _) (Nat.le_refl D) (.deferred none)).cell (p := ⟨w.heap.size + 3, 0, none⟩) (by show w.heap.size + 3 < D; omega)]; exact hrW
              refine ⟨by simp, .inl ⟨_, _, rfl, run_takeDeferred hK, ?_⟩⟩
              refine ⟨.bool true, ?_, rfl, hB'⟩
              simp [results, Try.f5, go_sem, hr']
  · cases b with
    | false =>
      go_wp2_with fail
      refine (cawake_any _).mono ?_
      rintro e w4 ⟨rfl, c4⟩
      have K5 := Lib.hid (K3.out.next c4)
      have kr := K5.out.r
      have krf := K5.out.rf
      go_wp2
      refine ⟨.bool true, ?_, rfl, K5.out.h.h.below.setCell (p := ⟨w.heap.size + 3, 0, none⟩) (by show w.heap.size ≤ w.heap.size + 3; omega) _⟩
      simp [results, Try.f5, go_sem, kr]
    | true =>
      have hs1 : ¬ s.size ≤ 1000 := fun h => hgo ⟨rfl, h⟩
      go_wp2_with fail
      refine (cawake_any _).mono ?_
      rintro e w4 ⟨rfl, c4⟩
      have K5 := Lib.hid (K3.out.next c4)
      have kr := K5.out.r
      have krf := K5.out.rf
      go_wp2
      refine ⟨.bool true, ?_, rfl, K5.out.h.h.below.setCell (p := ⟨w.heap.size + 3, 0, none⟩) (by show w.heap.size ≤ w.heap.size + 3; omega) _⟩
      simp [results, Try.f5, go_sem, kr]
end Go.Proofs.Ytpalgadokdcgnaa
