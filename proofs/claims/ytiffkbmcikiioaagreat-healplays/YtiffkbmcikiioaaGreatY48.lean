/-
  polderlaw10.laid, where a block is laid.
-/
import Derived.Test.YtiffkbmcikiioaaGreatY47
import Derived.Test.YtiffkbmcikiioaaGreatY43

/- polderlaw10.laid, where a block is laid. -/
namespace Go.Proofs.YtiffkbmcikiioaaGreat
set_option maxRecDepth 100000
open Go.RowKit Go.Shelf Go.Maps M

theorem failN_here {ds : Nat → Dv} {L : List C} (h : ∀ i, (ds i).lost = false) : failN ds (fun _ => false) L = 0 := by
  unfold failN
  rw [faTo_all _ fun j _ => by unfold hereB; rw [h]; rfl]
  rfl
theorem StX.put1 {X : Nat → Prop} {B : Nat} {w w' : World} {x : Px} {l : List (Int × Int)} {ds : Nat → Dv} {aw : Nat → Bool} {K : Nat} {P : World → Prop} (h : StX X B w x l ds aw K P) {b : Nat} (hb : b < B) (t : Turn (fun k => k = b) w w') : StX X B w' x l ds aw K P :=
  h.old (t.mono fun k hk => by omega)
set_option maxHeartbeats 8000000 in
theorem laid_ok (v : Value) (l : List (Int × Int)) (sc : Int) (p : Ptr) (s : ByteArray) (aA aL : Option Addr) (nA cA nL cL : Nat) (fA fL : Nat → Bool) (w : World) (h : Meas w v l sc) (hx : p.Ok) (hs : s.size ≤ maxLen) (hA : Bl w aA nA fA) (hL : Bl w aL nL fL) (hgo : laidB l sc p s = true) :
    Calls Tryz.prog 9 #[v, p.val, .string s, .slice aA nA cA, .slice aL nL cL] w fun e w' => ∃ (x : Px) (hv : Value) (z : Nat), e = .returned (.tuple #[x.val, (lqP p s).val, hv, .bool true]) ∧ x.sc = sc ∧ PR l sc (lqP p s) z ∧ s.size = z * 64 ∧
      St w.heap.size w' x l (loS nL fL (wpS l sc (lqP p s) z s (nP p)) x.n) (awTo nA fA x.n) 64 (fun w' => OwnBl w.heap.size w' hv (hereTo nA nL fA fL x.n)) ∧ Below w.heap.size w w' := by
  unfold laidB at hgo
  simp only [Bool.and_eq_true, decide_eq_true_eq] at hgo
  obtain ⟨⟨⟨⟨hs1, hmod⟩, hl100⟩, hsc200⟩, hright⟩ := hgo
  obtain ⟨z, hp⟩ := PR.of (lqP_ok hx hs) hright
  have hzz : ((s.size / 64 : Nat) : Int) = (z : Int) := hp.sz
  have hsz : s.size = z * 64 := by omega
  have hz4 := (hp.blk 0 (nP_pos _)).2.z4
  obtain ⟨a, gn, gc, rfl, hg⟩ := id h
  obtain ⟨W0, hW0, hLB0, hB0, hsz0⟩ := LB.start (w := w) (a := a) (n := gn) (c := gc) (sc := sc) p
  have HDV := Lib.hid (devices_ok l sc _ W0 (h.below hB0) hl100 hsc200 (hp.blk 0 (nP_pos _)).2.right none none 0 0 0 0 (fun _ => false) (fun _ => false) (Bl.nil _ _) (Bl.nil _ _))
  have HMS : Hid (∀ W, Below w.heap.size w W → Meas W (.agg #[.slice a gn gc, .int .i64 sc]) l sc) := Lib.hid fun W hb => h.below hb
  have HSM := Lib.hid (fun W => sum_any s W (by omega))
  have HRT : Hid (∀ W, Below w.heap.size w W → Calls Tryz.prog 30 #[.agg #[.slice a gn gc, .int .i64 sc], (lqP p s).val] W fun e w' => e = .returned (.bool true) ∧ Below W.heap.size W w') := Lib.hid fun W hb => right9_any l sc _ W (h.below hb) (lqP p s) hp.ok true hp.right
  have HPL := Lib.hid (fun W => places_new (lqP p s) hp.ne W)
  have HW0 := Lib.hid hW0
  have HLB0 := Lib.hid hLB0
  have HB0 := Lib.hid hB0
  have HZ0 := Lib.hid hsz0
  have HPR := Lib.hid hp
  have HSZ := Lib.hid hsz
  have HAA := Lib.hid hA
  have HLL := Lib.hid hL
  have hna := hA.1
  have hnl := hL.1
  unfold maxLen at hna hnl
  have d1 : decide (1000 < (s.size : Int)) = false := by rw [decide_eq_false_iff_not]; omega
  have q3 : Int.tmod (s.size : Int) 64 = 0 := by rw [Int.tmod_eq_emod_of_nonneg (by omega)]; omega
  have q4 : Int.tdiv (s.size : Int) 64 = (z : Int) := by rw [Int.tdiv_eq_ediv_of_nonneg (by omega)]; omega
  have q5 : IntKind.i64.wrap (z : Int) = (z : Int) := by rw [IntKind.wrap_i64]; omega
  obtain ⟨r, hr⟩ : ∃ r, sumB s = r := ⟨_, rfl⟩
  have hr' : sumQ zeroQ (wordsB s) = r := hr
  have HQ : Hid ((lqP p s).val = .agg #[.int .i64 p.ag, .int .i64 p.aa, .int .i64 p.bg, .int .i64 p.ba, .bool p.two, .int .i64 (z : Int), .int .i64 p.lv, .int .i64 p.bi, .int .u64 r.a, .int .u64 r.b, .int .u64 r.c, .int .u64 r.d] ∧ lqP p s = { { p with sz := (z : Int) } with q := r }) := Lib.hid (by unfold lqP Ptr.val Ptr.cells; rw [hr, hzz]; exact ⟨rfl, rfl⟩)
  rw [hr'] at HSM
  rw [HQ.out.1] at HRT HPL ⊢
  have hn2 := nP_le p
  have hnq : nP (lqP p s) = nP p := rfl
  rw [hnq] at HPL
  obtain ⟨n, hnn⟩ : ∃ n, nP p = n := ⟨_, rfl⟩
  rw [hnn] at HPL hn2 ⊢
  have HNN := Lib.hid hnn
  have hS1 : s.size ≤ 1000 := hs1
  clear h hx hs hA hL hright hp hzz hsz hg hW0 hLB0 hB0 hsz0 hr hr' hmod hl100 hsc200 hs1 hnq hnn
  unfold Ptr.val
  unfold Ptr.cells at HW0 ⊢
  obtain ⟨k0, k1, p0, p1, p2, p3, p4, p5, p6, p7, p8, p9, p10, p11, f5, f8, f9, f10, f11⟩ := HLB0.out.f
  go_enter Tryz.func9, Tryz.ntmps9
  go_wp2_with (first | (rw [HW0.out]; fail))
  rw [HW0.out]
  go_wp2_with fail
  refine HDV.out.mono ?_
  rintro e w2 ⟨x, hv, rfl, rfl, h2, c2⟩
  rw [dsTo_none, awTo_none] at h2
  have hbx := boxed w2 (.cells #[.slice x.ga x.gn x.gc, .int .i64 x.sc, .slice (some ⟨x.lb, 0, none⟩) x.n x.n, .slice (some ⟨x.ab, 0, none⟩) x.n x.n] 37)
  have c23 := next c2 hbx
  have HS3 := Lib.hid ((h2.add hbx (BoxX.new w2 x _ (Nat.le_refl _) 37)).mono (Q := BoxX x w2.heap.size) fun w h => h.2)
  have hB0z := HZ0.out
  have HLB3 := Lib.hid (HLB0.out.below c23 (by omega))
  have HC3 := Lib.hid c23
  clear k0 k1 p0 p1 p2 p3 p4 p5 p6 p7 p8 p9 p10 p11 f5 f8 f9 f10 f11
  clear h2 c2 hbx c23 HDV
  obtain ⟨k0, k1, p0, p1, p2, p3, p4, p5, p6, p7, p8, p9, p10, p11, f5, f8, f9, f10, f11⟩ := HLB3.out.f
  unfold Px.val
  obtain ⟨x0, x1, x2, x3⟩ := HS3.out.out
  go_upto_region 4 with (fail)
  obtain ⟨bx, hbx⟩ : ∃ bx, w2.heap.size = bx := ⟨_, rfl⟩
  obtain ⟨w3, hw3⟩ : ∃ w3, w2.alloc (.cells #[.slice x.ga x.gn x.gc, .int .i64 x.sc, .slice (some ⟨x.lb, 0, none⟩) x.n x.n, .slice (some ⟨x.ab, 0, none⟩) x.n x.n] 37) = w3 := ⟨_, rfl⟩
  rw [hw3] at HS3 HLB3 HC3 k0 k1 p0 p1 p2 p3 p4 p5 p6 p7 p8 p9 p10 p11 f5 f8 f9 f10 f11 x0 x1 x2 x3 ⊢
  rw [hbx] at HS3 x0 x1 x2 x3 ⊢
  clear hw3 hbx
  have HLB4 := Lib.hid (HLB3.out.size (z : Int))
  have t4 : Turn (fun k => k = w.heap.size + 1) w3 (w3.setCell ⟨w.heap.size + 1, 5, none⟩ (.int .i64 (z : Int))) := (Turn.refl (fun k => k = w.heap.size + 1) w3).setCell (p := ⟨w.heap.size + 1, 5, none⟩) (.inl rfl) _
  have HS4 := Lib.hid (HS3.out.put1 (by omega) t4)
  have HBw3 : Hid (Below w.heap.size w w3) := Lib.hid (HB0.out.trans (HC3.out.mono HB0.out.size))
  have HBw4 : Hid (Below w.heap.size w (w3.setCell ⟨w.heap.size + 1, 5, none⟩ (.int .i64 (z : Int)))) := Lib.hid (HBw3.out.trans (t4.below (fun k hk => by omega) HBw3.out.size))
  clear t4
  go_wp2_with fail
  refine (HSM.out _).mono ?_
  rintro e w5 ⟨rfl, c5⟩
  have HS5 := Lib.hid (HS4.out.below c5)
  have HLB5 := Lib.hid (HLB4.out.below c5 (by have := HLB4.out.lt; omega))
  have HBw5 := Lib.hid (next HBw4.out c5)
  clear k0 k1 p0 p1 p2 p3 p4 p5 p6 p7 p8 p9 p10 p11 f5 f8 f9 f10 f11
  clear x0 x1 x2 x3 c5 HS4 HLB4 HBw4 HSM
  obtain ⟨k0, k1, p0, p1, p2, p3, p4, p5, p6, p7, p8, p9, p10, p11, f5, f8, f9, f10, f11⟩ := HLB5.out.f
  obtain ⟨x0, x1, x2, x3⟩ := HS5.out.out
  have HLB6 := Lib.hid (HLB5.out.sum r)
  have HS6 := Lib.hid (HS5.out.put1 (by omega) (putS_turn w5 w.heap.size r))
  have HBw6 := Lib.hid (HBw5.out.trans ((putS_turn w5 w.heap.size r).below (fun k hk => by omega) HBw5.out.size))
  rw [← HQ.out.2] at HLB6
  have e6 := HLB6.out.f
  rw [HQ.out.2] at e6
  obtain ⟨K0, K1, P0, P1, P2, P3, P4, P5, P6, P7, P8, P9, P10, P11, _, _, _, _, _⟩ := e6
  obtain ⟨X0, X1, X2, X3⟩ := HS6.out.out
  unfold putS at K0 K1 P0 P1 P2 P3 P4 P5 P6 P7 P8 P9 P10 P11 X0 X1 X2 X3
  go_wp2_with fail
  refine (HRT.out _ HBw6.out).mono ?_
  rintro e w7 ⟨rfl, c7⟩
  have HS7 := Lib.hid (HS6.out.below c7)
  have HLB7 := Lib.hid (HLB6.out.below c7 (by have := HLB6.out.lt; omega))
  have HBw7 := Lib.hid (next HBw6.out c7)
  clear k0 k1 p0 p1 p2 p3 p4 p5 p6 p7 p8 p9 p10 p11 f5 f8 f9 f10 f11
  clear x0 x1 x2 x3 c7 HS6 HLB6 HBw6 HS5 HLB5 K0 K1 P0 P1 P2 P3 P4 P5 P6 P7 P8 P9 P10 P11 X0 X1 X2 X3 HRT
  have e7 := HLB7.out.f
  rw [HQ.out.2] at e7
  obtain ⟨k0, k1, p0, p1, p2, p3, p4, p5, p6, p7, p8, p9, p10, p11, f5, f8, f9, f10, f11⟩ := e7
  simp only at p0 p1 p2 p3 p4 p5 p6 p7 p8 p9 p10 p11
  go_wp2_with fail
  refine (HPL.out _).mono ?_
  rintro e w8 ⟨gp, rfl, hgp, hPA, c8⟩
  have HS8 := Lib.hid (HS7.out.add c8 (hPA.new hgp))
  have HLB8 := Lib.hid (HLB7.out.below c8 (by have := HLB7.out.lt; omega))
  have HBw8 := Lib.hid (next HBw7.out c8)
  clear k0 k1 p0 p1 p2 p3 p4 p5 p6 p7 p8 p9 p10 p11 f5 f8 f9 f10 f11
  clear c8 hPA hgp HS7 HLB7 HBw7 HPL
  have hBW := HS8.out.lt.2
  go_wp2_with fail
  go_loopw [18] (fun iv wr => ∃ j : Nat, j ≤ n ∧ iv = .int .i64 j ∧ St W0.heap.size wr x l (wpS l x.sc (lqP p s) z s j) (fun _ => false) (32 * j) (fun W => BoxX x bx W ∧ PlA W gp (lqP p s)) ∧ Below W0.heap.size w8 wr) (fun iv _ => n - (intOf iv).toNat)
  case atStart => exact ⟨0, Nat.zero_le _, rfl, HS8.out, Below.refl _ _⟩
  case round =>
    obtain ⟨j, hj, rfl, hst, hbw⟩ := hrel
    rename World => wr
    have HS := Lib.hid hst
    have HBW := Lib.hid hbw
    clear hst hbw
    obtain ⟨⟨x0, x1, x2, x3⟩, hpa⟩ := HS.out.out
    by_cases hlt : j < n
    · have hjn : j < nP (lqP p s) := by show j < nP p; rw [HNN.out]; exact hlt
      obtain ⟨eat, hbl⟩ := HPR.out.blk j hjn
      obtain ⟨z0, z1⟩ := hpa.2 j hjn
      rw [eat] at z0 z1
      have HSd := HS.out.below (Below.refl _ wr).drew
      have hW := write8_ok HSd (kN (lqP p s) j) (tN (lqP p s) j) z hbl s hS1 HSZ.out (hbl.puts HSZ.out HS.out.right.2) (by omega)
      rw [failN_here (fun i => wpS_lost _ _ _ _ _ _ _), errN_zero (hbl.right.all _ hbl.hk)] at hW
      have HW : Hid (Calls Tryz.prog 28 #[x.val, .agg #[.int .i64 (kN (lqP p s) j : Int), .int .i64 (tN (lqP p s) j : Int)], .string s] wr.drew fun e w' => e = .returned (.tuple #[.int .i64 0, .int .i64 0]) ∧ St W0.heap.size w' x l (wpS l x.sc (lqP p s) z s (j + 1)) (fun _ => false) (32 * j + 32) (fun W => BoxX x bx W ∧ PlA W gp (lqP p s)) ∧ Below W0.heap.size wr.drew w') := Lib.hid hW
      have HPA : Hid (∀ W, PlA W gp (lqP p s) → W.cell? ⟨gp, j * 2, none⟩ = some (.int .i64 (kN (lqP p s) j : Int)) ∧ W.cell? ⟨gp, j * 2 + 1, none⟩ = some (.int .i64 (tN (lqP p s) j : Int))) := Lib.hid fun W hg => by
        have := hg.2 j hjn
        rw [eat] at this
        exact this
      generalize kN (lqP p s) j = kj at *
      generalize tN (lqP p s) j = tj at *
      have q1 : (j : Int) < (n : Int) := by omega
      have q2 : (0 : Int) ≤ (j : Int) := by omega
      clear hW HSd hpa eat hbl
      unfold Px.val at HW
      go_wp2_with fail
      go_region_held3 (fun W => W.cell? ⟨bx, 0, none⟩ = some (.slice x.ga x.gn x.gc) ∧ W.cell? ⟨bx, 1, none⟩ = some (.int .i64 x.sc) ∧ W.cell? ⟨bx, 2, none⟩ = some (.slice (some ⟨x.lb, 0, none⟩) x.n x.n) ∧ W.cell? ⟨bx, 3, none⟩ = some (.slice (some ⟨x.ab, 0, none⟩) x.n x.n) ∧ W.cell? ⟨gp, j * 2, none⟩ = some (.int .i64 (kj : Int)) ∧ W.cell? ⟨gp, j * 2 + 1, none⟩ = some (.int .i64 (tj : Int)))
        (first | exact ⟨x0, x1, x2, x3, z0, z1⟩ | exact ⟨y0, y1, y2, y3, y4, y5⟩)
        (first | (go_at_call 28; refine HW.out.mono ?_; rintro e w9 ⟨rfl, h9, b9⟩; have HS9 := Lib.hid h9; have HB9 := Lib.hid ((HBW.out.trans ((Below.refl _ wr).drew.mono HS.out.lt.2)).trans b9); obtain ⟨⟨y0, y1, y2, y3⟩, hp9⟩ := h9.out; obtain ⟨y4, y5⟩ := HPA.out _ hp9; clear h9 b9 hp9))
      clear HW
      go_wp2
      go_roundw
      case rel => exact ⟨j + 1, by omega, by go_num, HS9.out, HB9.out⟩
      case measure => simp [intOf]; omega
    · obtain rfl : j = n := by omega
      have HLBr := Lib.hid (HLB8.out.below HBW.out (by omega))
      have HBwr := Lib.hid (HBw8.out.trans (HBW.out.mono (by omega)))
      have HWL := Lib.hid (wpS_lost l x.sc (lqP p s) z s j)
      have HDGW : Hid (∀ i, i < x.n → DGood x.sc 64 (wpS l x.sc (lqP p s) z s j i)) := Lib.hid fun i hi => (HS.out.good hi).mono (by omega)
      have HSr := Lib.hid ((HS.out.sub (X' := fun k => (Value.slice none 0 0).ownBlock = some k) (fun k hk => by simp [Value.ownBlock] at hk)).more (K' := 64) (by omega))
      obtain ⟨D, hD⟩ : ∃ D, wpS l x.sc (lqP p s) z s j = D := ⟨_, rfl⟩
      have HDD := Lib.hid hD
      rw [hD] at HSr HWL HDGW
      obtain ⟨_, h32⟩ := HS.out.right.1.devs HS.out.right.2
      have HPA : Hid True := Lib.hid trivial
      clear hpa hD HS HLB8 HBw8 HPA
      go_wp2_with fail
      go_loopw [21, 22] (fun hv iv wr2 => ∃ i : Nat, i ≤ x.n ∧ iv = .int .i64 i ∧ OwnBl W0.heap.size wr2 hv (hereTo nA nL fA fL i) ∧ StX (fun k => hv.ownBlock = some k) W0.heap.size wr2 x l (loS nL fL D i) (awTo nA fA i) 64 (fun W => BoxX x bx W ∧ PlA W gp (lqP p s)) ∧ Below W0.heap.size wr wr2) (fun _ iv _ => x.n - (intOf iv).toNat)
      case atStart =>
        refine ⟨0, Nat.zero_le _, rfl, World.ownsRow_nil _ _ _ _, ?_, Below.refl _ _⟩
        rw [loS_zero, awTo_zero]
        exact HSr.out
      case round =>
        obtain ⟨i, hi, rfl, ho, hst, hbw⟩ := hrel
        rename World => wq
        have HO := Lib.hid ho
        have HS := Lib.hid hst
        have HB := Lib.hid hbw
        have HBq := Lib.hid (HBwr.out.trans (hbw.mono (by omega)))
        clear ho hst hbw
        obtain ⟨⟨x0, x1, x2, x3⟩, _⟩ := HS.out.out
        by_cases hlt : i < x.n
        · have hawj := HS.out.away hlt
          have a0 := hawj.1
          have a1 := hawj.2
          clear hawj
          have HM := Lib.hid ((HS.out.below (Below.refl _ wq).drew).mark hlt (saysB nA fA i))
          have q1 : (0 : Int) ≤ (i : Int) := by omega
          have q2 : (i : Int) < (x.n : Int) := by omega
          go_upto_region 19 with (fail)
          go_cut [22] (fun s22 wc => s22 = .int .i64 (i : Int) ∧ wc = wq.drew.setCell ⟨x.ab, i, none⟩ (.bool (saysB nA fA i)))
          case first =>
            by_cases hja : i < nA
            · obtain ⟨gA, oA, rfl, hgA, hcA⟩ := HAA.out.2 i hja
              have hcA' := (HBq.out.cell (p := ⟨gA, oA + i, none⟩) hgA).trans hcA
              have HE : Hid (saysB nA fA i = fA i) := Lib.hid (by simp [saysB, hja])
              have d1 : decide ((i : Int) < (nA : Int)) = true := by simpa using hja
              have q3 : (i : Int) < (nA : Int) := by omega
              clear hcA
              refine wp_region_still_tail 14 (by kernel_rfl) (by kernel_rfl) ?_
              simp only [List.take_succ_cons, List.take_zero, List.drop_succ_cons, List.drop_zero]
              repeat still_step
              refine wpStill_nil ?_
              go_wp2_with fail
              go_meet
              exact ⟨rfl, by rw [HE.out]; rfl⟩
            · have HE : Hid (saysB nA fA i = false) := Lib.hid (by simp [saysB, hja])
              have d1 : decide ((i : Int) < (nA : Int)) = false := by simpa using hja
              refine wp_region_still_tail 14 (by kernel_rfl) (by kernel_rfl) ?_
              simp only [List.take_succ_cons, List.take_zero, List.drop_succ_cons, List.drop_zero]
              repeat still_step
              refine wpStill_nil ?_
              go_wp2_with fail
              go_meet
              exact ⟨rfl, by rw [HE.out]; rfl⟩
          case rest =>
            obtain ⟨rfl, hwc⟩ := hcut
            have HM1 : Hid (StX (fun k => u21.ownBlock = some k) W0.heap.size wc x l (loS nL fL D i) (awTo nA fA (i + 1)) 64 (fun W => BoxX x bx W ∧ PlA W gp (lqP p s))) := Lib.hid (by rw [hwc, ← awTo_set]; exact HM.out.1)
            have HB1 : Hid (Below W0.heap.size wr wc) := Lib.hid (by rw [hwc]; exact HB.out.drew.trans HM.out.2.1)
            have HO1 : Hid (OwnBl W0.heap.size wc u21 (hereTo nA nL fA fL i)) := Lib.hid (by rw [hwc]; exact (HO.out.below (Below.refl _ wq).drew).same fun k hk => HM.out.2.2 k hk)
            have HBq1 := Lib.hid (HBwr.out.trans (HB1.out.mono (by omega)))
            clear hwc x0 x1 x2 x3 a0 a1 HM HS HO HB HBq
            obtain ⟨⟨x0, x1, x2, x3⟩, _⟩ := HM1.out.out
            have HHT : Hid (hereTo nA nL fA fL (i + 1) = hereTo nA nL fA fL i ++ [!saysB nA fA i && !saysB nL fL i]) := Lib.hid (hereTo_succ nA nL fA fL i)
            have HHB : Hid (hereB (loS nL fL D (i + 1)) (awTo nA fA (i + 1)) i = (!saysB nA fA i && !saysB nL fL i)) := Lib.hid (hereB_lo HWL.out (by omega))
            obtain ⟨V, hV⟩ : ∃ V, (!saysB nA fA i && !saysB nL fL i) = V := ⟨_, rfl⟩
            rw [hV] at HHT HHB
            clear hV
            by_cases hjl : saysB nL fL i = true
            · have HJL := Lib.hid hjl
              have hjl1 : i < nL ∧ fL i = true := by simpa [saysB] using hjl
              obtain ⟨hjl2, hfl⟩ := hjl1
              obtain ⟨gL, oL, rfl, hgL, hcL⟩ := HLL.out.2 i hjl2
              have hcL' := (HBq1.out.cell (p := ⟨gL, oL + i, none⟩) hgL).trans hcL
              rw [hfl] at hcL'
              have d1 : decide ((i : Int) < (nL : Int)) = true := by simpa using hjl2
              have q3 : (i : Int) < (nL : Int) := by omega
              obtain ⟨b, f, cb, hd, hdid⟩ := HM1.out.did hlt
              rw [loS_at] at hd
              have HLO := Lib.hid (lose_any b (D i) f wc hd)
              have HDID := Lib.hid hdid
              clear hd hdid hfl hcL hjl hjl2
              go_wp2_with fail
              refine HLO.out.mono ?_
              rintro e w5 ⟨rfl, hd5⟩
              obtain ⟨h5, b5, _, hX5⟩ := HDID.out _ w5 64 hd5 ⟨(HDGW.out i hlt).fused, (HDGW.out i hlt).len, Nat.zero_le _⟩ (Nat.le_refl _)
              have HS5 : Hid (StX (fun k => u21.ownBlock = some k) W0.heap.size w5 x l (loS nL fL D (i + 1)) (awTo nA fA (i + 1)) 64 (fun W => BoxX x bx W ∧ PlA W gp (lqP p s))) := Lib.hid (by rw [← loS_yes _ _ _ _ HJL.out]; exact h5)
              have HB5 := Lib.hid (HB1.out.trans b5)
              have HO5 := Lib.hid (HO1.out.same hX5)
              clear h5 b5 hX5 hd5 hcL' x0 x1 x2 x3 HLO HDID HM1 HB1 HO1 cb HBq1
              obtain ⟨⟨x0, x1, x2, x3⟩, _⟩ := HS5.out.out
              have hhe := here8_any HS5.out (i : Int)
              have hde : hereD (loS nL fL D (i + 1)) (awTo nA fA (i + 1)) x.n (i : Int) = V := by
                unfold hereD
                rw [Int.toNat_natCast, HHB.out, decide_eq_true q1, decide_eq_true q2]
                rfl
              rw [hde] at hhe
              have HHE : Hid (Calls Tryz.prog 31 #[x.val, .int .i64 (i : Int)] w5 fun e w' => e = .returned (.bool V) ∧ Below w5.heap.size w5 w') := Lib.hid hhe
              unfold Px.val at HHE
              clear hhe hde
              go_wp2_with fail
              refine HHE.out.mono ?_
              rintro e w6 ⟨rfl, b6⟩
              have HS6 := Lib.hid (HS5.out.below b6)
              have HO6 := Lib.hid (HO5.out.below b6)
              have HB6 := Lib.hid (HB5.out.trans (b6.mono HS5.out.lt.2))
              have hw6 : W0.heap.size ≤ w6.heap.size := HS6.out.lt.2
              clear b6 HHE
              go_wp2_with (at_builtin; refine wpList_append_bool _ rfl _ _ rfl W0.heap.size u21 (hereTo nA nL fA fL i) V _ _ rfl rfl (HO6.out.below (boxed _ _)) (by simp) (by simp; omega) (by rw [hereTo_len]; omega) ?_; intro v9 w9 hO9 hg9 hv9)
              have tX : Turn (fun k => u21.ownBlock = some k) (w6.alloc (.cells #[.bool V] 4)) w9 := grown_turn hg9 fun k hk => hk
              have HS9 : Hid (StX (fun k => v9.ownBlock = some k) W0.heap.size w9 x l (loS nL fL D (i + 1)) (awTo nA fA (i + 1)) 64 (fun W => BoxX x bx W ∧ PlA W gp (lqP p s))) := Lib.hid ((HS6.out.below (boxed _ _)).turnX tX (fun k hk => by rcases hv9 with e | e; exact .inl (by rw [← e]; exact hk); exact .inr (by rw [e] at hk; cases hk; exact Nat.le_refl _)) (fun k hk => (World.ownsRow.lt hO9 k hk).2) (by simp; omega))
              have HO9 : Hid (OwnBl W0.heap.size w9 v9 (hereTo nA nL fA fL (i + 1))) := Lib.hid (by rw [HHT.out]; exact hO9)
              have HB9 : Hid (Below W0.heap.size wr w9) := Lib.hid ((HB6.out.trans ((boxed _ _).mono hw6)).trans (tX.below (fun k hk => (World.ownsRow.lt HO6.out k hk).1) (by simp; omega)))
              clear hO9 hg9 hv9 tX
              go_wp2
              go_roundw
              case rel => exact ⟨i + 1, by omega, by go_num, HO9.out, HS9.out, HB9.out⟩
              case measure => simp [intOf]; omega
            · have hjl' : saysB nL fL i = false := by simpa using hjl
              have HJL := Lib.hid hjl'
              have HS5 : Hid (StX (fun k => u21.ownBlock = some k) W0.heap.size wc x l (loS nL fL D (i + 1)) (awTo nA fA (i + 1)) 64 (fun W => BoxX x bx W ∧ PlA W gp (lqP p s))) := Lib.hid (by rw [← loS_no _ _ _ _ HJL.out]; exact HM1.out)
              by_cases hjl2 : i < nL
              · obtain ⟨gL, oL, rfl, hgL, hcL⟩ := HLL.out.2 i hjl2
                have hcL' := (HBq1.out.cell (p := ⟨gL, oL + i, none⟩) hgL).trans hcL
                have hfl : fL i = false := by simpa [saysB, hjl2] using hjl'
                rw [hfl] at hcL'
                have d1 : decide ((i : Int) < (nL : Int)) = true := by simpa using hjl2
                have q3 : (i : Int) < (nL : Int) := by omega
                have hhe := here8_any HS5.out (i : Int)
                clear hcL hfl hjl hjl' hjl2
                have hde : hereD (loS nL fL D (i + 1)) (awTo nA fA (i + 1)) x.n (i : Int) = V := by
                  unfold hereD
                  rw [Int.toNat_natCast, HHB.out, decide_eq_true q1, decide_eq_true q2]
                  rfl
                rw [hde] at hhe
                have HHE : Hid (Calls Tryz.prog 31 #[x.val, .int .i64 (i : Int)] wc fun e w' => e = .returned (.bool V) ∧ Below wc.heap.size wc w') := Lib.hid hhe
                unfold Px.val at HHE
                clear hhe hde
                go_wp2_with fail
                refine HHE.out.mono ?_
                rintro e w6 ⟨rfl, b6⟩
                have HS6 := Lib.hid (HS5.out.below b6)
                have HO6 := Lib.hid (HO1.out.below b6)
                have HB6 := Lib.hid (HB1.out.trans (b6.mono HS5.out.lt.2))
                have hw6 : W0.heap.size ≤ w6.heap.size := HS6.out.lt.2
                clear b6 HHE
                go_wp2_with (at_builtin; refine wpList_append_bool _ rfl _ _ rfl W0.heap.size u21 (hereTo nA nL fA fL i) V _ _ rfl rfl (HO6.out.below (boxed _ _)) (by simp) (by simp; omega) (by rw [hereTo_len]; omega) ?_; intro v9 w9 hO9 hg9 hv9)
                have tX : Turn (fun k => u21.ownBlock = some k) (w6.alloc (.cells #[.bool V] 4)) w9 := grown_turn hg9 fun k hk => hk
                have HS9 : Hid (StX (fun k => v9.ownBlock = some k) W0.heap.size w9 x l (loS nL fL D (i + 1)) (awTo nA fA (i + 1)) 64 (fun W => BoxX x bx W ∧ PlA W gp (lqP p s))) := Lib.hid ((HS6.out.below (boxed _ _)).turnX tX (fun k hk => by rcases hv9 with e | e; exact .inl (by rw [← e]; exact hk); exact .inr (by rw [e] at hk; cases hk; exact Nat.le_refl _)) (fun k hk => (World.ownsRow.lt hO9 k hk).2) (by simp; omega))
                have HO9 : Hid (OwnBl W0.heap.size w9 v9 (hereTo nA nL fA fL (i + 1))) := Lib.hid (by rw [HHT.out]; exact hO9)
                have HB9 : Hid (Below W0.heap.size wr w9) := Lib.hid ((HB6.out.trans ((boxed _ _).mono hw6)).trans (tX.below (fun k hk => (World.ownsRow.lt HO6.out k hk).1) (by simp; omega)))
                clear hO9 hg9 hv9 tX
                go_wp2
                go_roundw
                case rel => exact ⟨i + 1, by omega, by go_num, HO9.out, HS9.out, HB9.out⟩
                case measure => simp [intOf]; omega
              · have d1 : decide ((i : Int) < (nL : Int)) = false := by simpa using hjl2
                have hhe := here8_any HS5.out (i : Int)
                clear hjl hjl'
                have hde : hereD (loS nL fL D (i + 1)) (awTo nA fA (i + 1)) x.n (i : Int) = V := by
                  unfold hereD
                  rw [Int.toNat_natCast, HHB.out, decide_eq_true q1, decide_eq_true q2]
                  rfl
                rw [hde] at hhe
                have HHE : Hid (Calls Tryz.prog 31 #[x.val, .int .i64 (i : Int)] wc fun e w' => e = .returned (.bool V) ∧ Below wc.heap.size wc w') := Lib.hid hhe
                unfold Px.val at HHE
                clear hhe hde
                go_wp2_with fail
                refine HHE.out.mono ?_
                rintro e w6 ⟨rfl, b6⟩
                have HS6 := Lib.hid (HS5.out.below b6)
                have HO6 := Lib.hid (HO1.out.below b6)
                have HB6 := Lib.hid (HB1.out.trans (b6.mono HS5.out.lt.2))
                have hw6 : W0.heap.size ≤ w6.heap.size := HS6.out.lt.2
                clear b6 HHE
                go_wp2_with (at_builtin; refine wpList_append_bool _ rfl _ _ rfl W0.heap.size u21 (hereTo nA nL fA fL i) V _ _ rfl rfl (HO6.out.below (boxed _ _)) (by simp) (by simp; omega) (by rw [hereTo_len]; omega) ?_; intro v9 w9 hO9 hg9 hv9)
                have tX : Turn (fun k => u21.ownBlock = some k) (w6.alloc (.cells #[.bool V] 4)) w9 := grown_turn hg9 fun k hk => hk
                have HS9 : Hid (StX (fun k => v9.ownBlock = some k) W0.heap.size w9 x l (loS nL fL D (i + 1)) (awTo nA fA (i + 1)) 64 (fun W => BoxX x bx W ∧ PlA W gp (lqP p s))) := Lib.hid ((HS6.out.below (boxed _ _)).turnX tX (fun k hk => by rcases hv9 with e | e; exact .inl (by rw [← e]; exact hk); exact .inr (by rw [e] at hk; cases hk; exact Nat.le_refl _)) (fun k hk => (World.ownsRow.lt hO9 k hk).2) (by simp; omega))
                have HO9 : Hid (OwnBl W0.heap.size w9 v9 (hereTo nA nL fA fL (i + 1))) := Lib.hid (by rw [HHT.out]; exact hO9)
                have HB9 : Hid (Below W0.heap.size wr w9) := Lib.hid ((HB6.out.trans ((boxed _ _).mono hw6)).trans (tX.below (fun k hk => (World.ownsRow.lt HO6.out k hk).1) (by simp; omega)))
                clear hO9 hg9 hv9 tX
                go_wp2
                go_roundw
                case rel => exact ⟨i + 1, by omega, by go_num, HO9.out, HS9.out, HB9.out⟩
                case measure => simp [intOf]; omega
        · obtain rfl : i = x.n := by omega
          have HLq := Lib.hid (HLBr.out.below HB.out (by omega))
          have eq1 := HLq.out.f
          rw [HQ.out.2] at eq1
          obtain ⟨k0, k1, p0, p1, p2, p3, p4, p5, p6, p7, p8, p9, p10, p11, _, _, _, _, _⟩ := eq1
          simp only at p0 p1 p2 p3 p4 p5 p6 p7 p8 p9 p10 p11
          have u0_ : wq.cell? ⟨w.heap.size + 2, 0, none⟩ = some (.slice none 0 0) := heap_cell HLq.out.d rfl
          have y0_ : wq.frozen? ⟨w.heap.size + 2, 0, none⟩ = false := heap_frozen HLq.out.d
          have u1_ : wq.cell? ⟨w.heap.size + 2, 1, none⟩ = some (.int .i64 0) := heap_cell HLq.out.d rfl
          have y1_ : wq.frozen? ⟨w.heap.size + 2, 1, none⟩ = false := heap_frozen HLq.out.d
          have u2_ : wq.cell? ⟨w.heap.size + 2, 2, none⟩ = some (.slice none 0 0) := heap_cell HLq.out.d rfl
          have y2_ : wq.frozen? ⟨w.heap.size + 2, 2, none⟩ = false := heap_frozen HLq.out.d
          have u3_ : wq.cell? ⟨w.heap.size + 2, 3, none⟩ = some (.slice none 0 0) := heap_cell HLq.out.d rfl
          have y3_ : wq.frozen? ⟨w.heap.size + 2, 3, none⟩ = false := heap_frozen HLq.out.d
          have v0_ : wq.cell? ⟨w.heap.size + 3, 0, none⟩ = some (.int .i64 0) := heap_cell HLq.out.r rfl
          have z0_ : wq.frozen? ⟨w.heap.size + 3, 0, none⟩ = false := heap_frozen HLq.out.r
          have v1_ : wq.cell? ⟨w.heap.size + 3, 1, none⟩ = some (.int .i64 0) := heap_cell HLq.out.r rfl
          have z1_ : wq.frozen? ⟨w.heap.size + 3, 1, none⟩ = false := heap_frozen HLq.out.r
          have v2_ : wq.cell? ⟨w.heap.size + 3, 2, none⟩ = some (.int .i64 0) := heap_cell HLq.out.r rfl
          have z2_ : wq.frozen? ⟨w.heap.size + 3, 2, none⟩ = false := heap_frozen HLq.out.r
          have v3_ : wq.cell? ⟨w.heap.size + 3, 3, none⟩ = some (.int .i64 0) := heap_cell HLq.out.r rfl
          have z3_ : wq.frozen? ⟨w.heap.size + 3, 3, none⟩ = false := heap_frozen HLq.out.r
          have v4_ : wq.cell? ⟨w.heap.size + 3, 4, none⟩ = some (.bool false) := heap_cell HLq.out.r rfl
          have z4_ : wq.frozen? ⟨w.heap.size + 3, 4, none⟩ = false := heap_frozen HLq.out.r
          have v5_ : wq.cell? ⟨w.heap.size + 3, 5, none⟩ = some (.int .i64 0) := heap_cell HLq.out.r rfl
          have z5_ : wq.frozen? ⟨w.heap.size + 3, 5, none⟩ = false := heap_frozen HLq.out.r
          have v6_ : wq.cell? ⟨w.heap.size + 3, 6, none⟩ = some (.int .i64 0) := heap_cell HLq.out.r rfl
          have z6_ : wq.frozen? ⟨w.heap.size + 3, 6, none⟩ = false := heap_frozen HLq.out.r
          have v7_ : wq.cell? ⟨w.heap.size + 3, 7, none⟩ = some (.int .i64 0) := heap_cell HLq.out.r rfl
          have z7_ : wq.frozen? ⟨w.heap.size + 3, 7, none⟩ = false := heap_frozen HLq.out.r
          have v8_ : wq.cell? ⟨w.heap.size + 3, 8, none⟩ = some (.int .u64 0) := heap_cell HLq.out.r rfl
          have z8_ : wq.frozen? ⟨w.heap.size + 3, 8, none⟩ = false := heap_frozen HLq.out.r
          have v9_ : wq.cell? ⟨w.heap.size + 3, 9, none⟩ = some (.int .u64 0) := heap_cell HLq.out.r rfl
          have z9_ : wq.frozen? ⟨w.heap.size + 3, 9, none⟩ = false := heap_frozen HLq.out.r
          have v10_ : wq.cell? ⟨w.heap.size + 3, 10, none⟩ = some (.int .u64 0) := heap_cell HLq.out.r rfl
          have z10_ : wq.frozen? ⟨w.heap.size + 3, 10, none⟩ = false := heap_frozen HLq.out.r
          have v11_ : wq.cell? ⟨w.heap.size + 3, 11, none⟩ = some (.int .u64 0) := heap_cell HLq.out.r rfl
          have z11_ : wq.frozen? ⟨w.heap.size + 3, 11, none⟩ = false := heap_frozen HLq.out.r
          clear k0 k1
          obtain ⟨HO1, HO2⟩ := HLq.out.out (.slice x.ga x.gn x.gc) (.int .i64 x.sc) (.slice (some ⟨x.lb, 0, none⟩) x.n x.n) (.slice (some ⟨x.ab, 0, none⟩) x.n x.n) (.int .i64 p.ag) (.int .i64 p.aa) (.int .i64 p.bg) (.int .i64 p.ba) (.bool p.two) (.int .i64 (z : Int)) (.int .i64 p.lv) (.int .i64 p.bi) (.int .u64 (r.a : Int)) (.int .u64 (r.b : Int)) (.int .u64 (r.c : Int)) (.int .u64 (r.d : Int))
          have tV := putV_turn wq w.heap.size (.slice x.ga x.gn x.gc) (.int .i64 x.sc) (.slice (some ⟨x.lb, 0, none⟩) x.n x.n) (.slice (some ⟨x.ab, 0, none⟩) x.n x.n)
          have tW := putW_turn (putV wq w.heap.size (.slice x.ga x.gn x.gc) (.int .i64 x.sc) (.slice (some ⟨x.lb, 0, none⟩) x.n x.n) (.slice (some ⟨x.ab, 0, none⟩) x.n x.n)) w.heap.size (.int .i64 p.ag) (.int .i64 p.aa) (.int .i64 p.bg) (.int .i64 p.ba) (.bool p.two) (.int .i64 (z : Int)) (.int .i64 p.lv) (.int .i64 p.bi) (.int .u64 (r.a : Int)) (.int .u64 (r.b : Int)) (.int .u64 (r.c : Int)) (.int .u64 (r.d : Int))
          have HTT : Hid (Turn (fun k => k < W0.heap.size) wq (putW (putV wq w.heap.size (.slice x.ga x.gn x.gc) (.int .i64 x.sc) (.slice (some ⟨x.lb, 0, none⟩) x.n x.n) (.slice (some ⟨x.ab, 0, none⟩) x.n x.n)) w.heap.size (.int .i64 p.ag) (.int .i64 p.aa) (.int .i64 p.bg) (.int .i64 p.ba) (.bool p.two) (.int .i64 (z : Int)) (.int .i64 p.lv) (.int .i64 p.bi) (.int .u64 (r.a : Int)) (.int .u64 (r.b : Int)) (.int .u64 (r.c : Int)) (.int .u64 (r.d : Int))).drew) := Lib.hid (((tV.mono (fun k hk => by omega)).trans (tW.mono (fp' := fun k => k < W0.heap.size) (fun k hk => by omega)) fun k hk => .inl hk).trans (Turn.of_below (fp := fun k => k < W0.heap.size) (Below.refl _ _).drew) fun k hk => .inl hk)
          have e0 := heap_cell (i := 0) HO1 rfl
          have e1 := heap_cell (i := 1) HO1 rfl
          have e2 := heap_cell (i := 2) HO1 rfl
          have e3 := heap_cell (i := 3) HO1 rfl
          have t0 := heap_cell (i := 0) HO2 rfl
          have t1 := heap_cell (i := 1) HO2 rfl
          have t2 := heap_cell (i := 2) HO2 rfl
          have t3 := heap_cell (i := 3) HO2 rfl
          have t4 := heap_cell (i := 4) HO2 rfl
          have t5 := heap_cell (i := 5) HO2 rfl
          have t6 := heap_cell (i := 6) HO2 rfl
          have t7 := heap_cell (i := 7) HO2 rfl
          have t8 := heap_cell (i := 8) HO2 rfl
          have t9 := heap_cell (i := 9) HO2 rfl
          have t10 := heap_cell (i := 10) HO2 rfl
          have t11 := heap_cell (i := 11) HO2 rfl
          unfold putW putV at e0 e1 e2 e3 t0 t1 t2 t3 t4 t5 t6 t7 t8 t9 t10 t11
          clear tV tW HO1 HO2
          go_upto_region 23 with (fail)
          go_region
          go_wp2_with fail
          refine bodyPost_ret (v := .tuple #[.agg #[.slice x.ga x.gn x.gc, .int .i64 x.sc, .slice (some ⟨x.lb, 0, none⟩) x.n x.n, .slice (some ⟨x.ab, 0, none⟩) x.n x.n], .agg #[.int .i64 p.ag, .int .i64 p.aa, .int .i64 p.bg, .int .i64 p.ba, .bool p.two, .int .i64 (z : Int), .int .i64 p.lv, .int .i64 p.bi, .int .u64 (r.a : Int), .int .u64 (r.b : Int), .int .u64 (r.c : Int), .int .u64 (r.d : Int)], u21, .bool true]) ?_ rfl ⟨x, u21, z, rfl, rfl, HPR.out, HSZ.out, ?_, ?_⟩
          · simp [results, Tryz.results9, go_sem, e0, e1, e2, e3, t0, t1, t2, t3, t4, t5, t6, t7, t8, t9, t10, t11]
          · have hS := HS.out.old HTT.out
            have hO : OwnBl w.heap.size (putW (putV wq w.heap.size (.slice x.ga x.gn x.gc) (.int .i64 x.sc) (.slice (some ⟨x.lb, 0, none⟩) x.n x.n) (.slice (some ⟨x.ab, 0, none⟩) x.n x.n)) w.heap.size (.int .i64 p.ag) (.int .i64 p.aa) (.int .i64 p.bg) (.int .i64 p.ba) (.bool p.two) (.int .i64 (z : Int)) (.int .i64 p.lv) (.int .i64 p.bi) (.int .u64 (r.a : Int)) (.int .u64 (r.b : Int)) (.int .u64 (r.c : Int)) (.int .u64 (r.d : Int))).drew u21 (hereTo nA nL fA fL x.n) := by
              have h1 : OwnBl W0.heap.size (putW (putV wq w.heap.size (.slice x.ga x.gn x.gc) (.int .i64 x.sc) (.slice (some ⟨x.lb, 0, none⟩) x.n x.n) (.slice (some ⟨x.ab, 0, none⟩) x.n x.n)) w.heap.size (.int .i64 p.ag) (.int .i64 p.aa) (.int .i64 p.bg) (.int .i64 p.ba) (.bool p.two) (.int .i64 (z : Int)) (.int .i64 p.lv) (.int .i64 p.bi) (.int .u64 (r.a : Int)) (.int .u64 (r.b : Int)) (.int .u64 (r.c : Int)) (.int .u64 (r.d : Int))).drew u21 (hereTo nA nL fA fL x.n) := HO.out.same fun k hk => HTT.out.block k (World.ownsRow.lt HO.out k hk).2 fun e => by have := (World.ownsRow.lt HO.out k hk).1; omega
              refine ⟨h1.1, ?_⟩
              rcases h1.2 with hn | ⟨g, cap, cur, e, hB, rest⟩
              · exact .inl hn
              · exact .inr ⟨g, cap, cur, e, by omega, rest⟩
            have hR := hS.release (Q := fun w' => OwnBl w.heap.size w' u21 (hereTo nA nL fA fL x.n)) fun w' _ hk => hO.same fun k hb => hk k hb
            have hF := (hR.mono (Q := fun w' => OwnBl w.heap.size w' u21 (hereTo nA nL fA fL x.n)) fun w' h => h.2).lower (B' := w.heap.size) (by omega)
            rw [← HDD.out] at hF
            exact hF
          · exact HBq.out.trans ((((putV_turn wq w.heap.size _ _ _ _).below (fun k hk => by omega) HBq.out.size).trans ((putW_turn _ w.heap.size _ _ _ _ _ _ _ _ _ _ _ _).below (fun k hk => by omega) (by have := (putV_turn wq w.heap.size (.slice x.ga x.gn x.gc) (.int .i64 x.sc) (.slice (some ⟨x.lb, 0, none⟩) x.n x.n) (.slice (some ⟨x.ab, 0, none⟩) x.n x.n)).size; have := HBq.out.size; omega))).drew)
end Go.Proofs.YtiffkbmcikiioaaGreat
