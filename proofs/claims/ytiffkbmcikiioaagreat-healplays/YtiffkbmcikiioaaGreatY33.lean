/-
  vdev.New: the walk.
-/
import Derived.Test.YtiffkbmcikiioaaGreatY32

/- vdev.New: the walk. -/
namespace Go.Proofs.YtiffkbmcikiioaaGreat
set_option maxRecDepth 100000
open Go.RowKit Go.Maps M

set_option maxHeartbeats 8000000 in
theorem new8_ok (l : List (Int × Int)) (sc : Int) (v : Value) (w : World) (h : Meas w v l sc) (hr : RightM l sc) (fill : UInt8) :
    Calls Tryz.prog 27 #[v, .int .u8 (fill.toNat : Int)] w fun e w' => ∃ x : Px, e = .returned (.tuple #[x.val, .int .i64 0]) ∧ x.sc = sc ∧ St w.heap.size w' x l (fun _ => (newDv sc.toNat).fresh fill) (fun _ => false) 0 (fun _ => True) ∧ Below w.heap.size w w' := by
  obtain ⟨a, gn, gc, rfl, hg, hs0, hs1⟩ := id h
  obtain ⟨N, hN⟩ : ∃ N : Nat, devsL l sc = (N : Int) := by
    have := hr.bounds l.length (Nat.le_refl _)
    unfold devsL
    rw [rightM_iff.2 hr, if_pos rfl]
    exact ⟨(aheadL l l.length).toNat, by omega⟩
  obtain ⟨hN1, hN32⟩ := hr.devs hN
  have hgn : l.length = gn := hg.2.1
  have hgn0 := hr.pos
  have hgn4 := hr.few
  obtain ⟨g, o, rfl, hgl⟩ := hg.2.2 0 hgn0
  have b1 := boxed w (.cells #[.slice (some ⟨g, o, none⟩) gn gc, .int .i64 sc] 24)
  have b2 := boxed (w.alloc (.cells #[.slice (some ⟨g, o, none⟩) gn gc, .int .i64 sc] 24)) (.cells #[.slice none 0 0, .int .i64 0, .slice none 0 0, .slice none 0 0] 37)
  have bb := next b1 b2
  have c0 : ((w.alloc (.cells #[.slice (some ⟨g, o, none⟩) gn gc, .int .i64 sc] 24)).alloc (.cells #[.slice none 0 0, .int .i64 0, .slice none 0 0, .slice none 0 0] 37)).cell? ⟨w.heap.size, 0, none⟩ = some (.slice (some ⟨g, o, none⟩) gn gc) := by rw [b2.cell (p := ⟨w.heap.size, 0, none⟩) (by simp)]; simp
  have c1 : ((w.alloc (.cells #[.slice (some ⟨g, o, none⟩) gn gc, .int .i64 sc] 24)).alloc (.cells #[.slice none 0 0, .int .i64 0, .slice none 0 0, .slice none 0 0] 37)).cell? ⟨w.heap.size, 1, none⟩ = some (.int .i64 sc) := by rw [b2.cell (p := ⟨w.heap.size, 1, none⟩) (by simp)]; simp
  have hres : ((w.alloc (.cells #[.slice (some ⟨g, o, none⟩) gn gc, .int .i64 sc] 24)).alloc (.cells #[.slice none 0 0, .int .i64 0, .slice none 0 0, .slice none 0 0] 37)).heap[w.heap.size + 1]? = some (.cells #[.slice none 0 0, .int .i64 0, .slice none 0 0, .slice none 0 0] 37) := by
    have := heap_alloc_new (w.alloc (.cells #[.slice (some ⟨g, o, none⟩) gn gc, .int .i64 sc] 24)) (.cells #[.slice none 0 0, .int .i64 0, .slice none 0 0, .slice none 0 0] 37)
    simpa using this
  have hz2 : ((w.alloc (.cells #[.slice (some ⟨g, o, none⟩) gn gc, .int .i64 sc] 24)).alloc (.cells #[.slice none 0 0, .int .i64 0, .slice none 0 0, .slice none 0 0] 37)).heap.size = w.heap.size + 2 := by simp
  generalize hw2 : (w.alloc (.cells #[.slice (some ⟨g, o, none⟩) gn gc, .int .i64 sc] 24)).alloc (.cells #[.slice none 0 0, .int .i64 0, .slice none 0 0, .slice none 0 0] 37) = w2 at b2 bb c0 c1 hres hz2
  have HW2 := Lib.hid hw2
  have HM := Lib.hid (h.below bb)
  have HRI := Lib.hid (right_any l sc _ w2 HM.out true (rightM_iff.2 hr))
  have HR := Lib.hid hr
  have HDN := Lib.hid hN
  have HBB := Lib.hid bb
  have HRES := Lib.hid hres
  clear h hg b1 b2 bb hr hN hgl hw2 hres
  go_enter Tryz.func27, Tryz.ntmps27
  go_wp2_with (first | (rw [HW2.out]; fail))
  rw [HW2.out]
  go_wp2_with fail
  refine HRI.out.mono ?_
  rintro e w3 ⟨rfl, b3⟩
  have HD := Lib.hid (devs_any l sc _ w3 (HM.out.below b3) (N : Int) HDN.out)
  have c0' := (b3.cell (p := ⟨w.heap.size, 0, none⟩) (by simp; omega)).trans c0
  have c1' := (b3.cell (p := ⟨w.heap.size, 1, none⟩) (by simp; omega)).trans c1
  go_wp2_with fail
  refine HD.out.mono ?_
  rintro e w4 ⟨rfl, b4⟩
  have b34 := next b3 b4
  have HM4 := Lib.hid (HM.out.below b34)
  have d0 := (b34.cell (p := ⟨w.heap.size, 0, none⟩) (by simp; omega)).trans c0
  have d1 := (b34.cell (p := ⟨w.heap.size, 1, none⟩) (by simp; omega)).trans c1
  have HB4 := Lib.hid (next HBB.out b34)
  have HRES4 := Lib.hid ((b34.block (w.heap.size + 1) (by omega)).trans HRES.out)
  have hz4 : w.heap.size + 2 ≤ w4.heap.size := by have := b34.size; omega
  clear c0 c1 c0' c1' b3 b4 b34 HM HD HRI HBB HRES
  go_upto_region 4 with (fail)
  go_cut [7] (fun s7 wc => NewRel w4 l sc gn N s7 wc)
  case first =>
    have hS0 : Below w4.heap.size w4 w4.drew := (Below.refl _ w4).drew
    have mk1 := fun V => make_ptrs V N (by omega)
    have mk2 := fun V => make_marks V N (by omega)
    have l0 : w.heap.size < w4.heap.size := by omega
    have HA : Hid (∀ W : World, Below w4.heap.size w4 W → W.cell? ⟨w.heap.size, 0, none⟩ = some (.slice (some ⟨g, o, none⟩) gn gc) ∧ W.cell? ⟨w.heap.size, 1, none⟩ = some (.int .i64 sc) ∧ Below w4.heap.size w4 W) := Lib.hid fun W hb =>
      ⟨(hb.cell (p := ⟨w.heap.size, 0, none⟩) l0).trans d0, (hb.cell (p := ⟨w.heap.size, 1, none⟩) l0).trans d1, hb⟩
    have HC : Hid (∀ W : World, (W.cell? ⟨w.heap.size, 0, none⟩ = some (.slice (some ⟨g, o, none⟩) gn gc) ∧ W.cell? ⟨w.heap.size, 1, none⟩ = some (.int .i64 sc) ∧ Below w4.heap.size w4 W) → Calls Tryz.prog 56 #[.slice (some ⟨g, o, none⟩) gn gc] W fun e w' => ∃ g' c', e = .returned (.slice (some ⟨g', 0, none⟩) gn c') ∧ (W.heap.size ≤ g' ∧ g' < w'.heap.size) ∧ New W.heap.size w' (fun w => Grps w (some ⟨g', 0, none⟩) gn l) ∧ Below W.heap.size W w' ∧ Below w4.heap.size w4 w') := Lib.hid fun W ⟨_, _, hb⟩ => by
      obtain ⟨a', n', cc', ev, hG, _⟩ := HM4.out.below hb
      cases ev
      exact (clone_grp l g o gn gc W hG (by omega) (by omega)).mono fun e w' ⟨g', c', h1, h2, h3, h4⟩ => ⟨g', c', h1, ⟨h2, by obtain ⟨g2, o2, e2, hx⟩ := h3.out.2.2 0 hgn0; cases e2; exact hx.lt⟩, h3, h4, next hb h4⟩
    go_region_held3 (fun W => W.cell? ⟨w.heap.size, 0, none⟩ = some (.slice (some ⟨g, o, none⟩) gn gc) ∧ W.cell? ⟨w.heap.size, 1, none⟩ = some (.int .i64 sc) ∧ Below w4.heap.size w4 W)
      ((refine HA.out _ ?_; repeat (first | with_reducible exact hS0 | with_reducible exact bw5 | with_reducible exact Below.refl _ _ | with_reducible refine grows_alloc ?_ _ | with_reducible refine grows_set ?_ (by omega) _ | with_reducible refine Below.drew ?_)))
      (first
      | (go_at_call 56; refine (HC.out _ ?_).mono ?_; assumption; rintro e w5 ⟨g', c', rfl, ⟨hg5, hg6⟩, hN5, b5, bw5⟩; have HN5 := Lib.hid hN5; have HB5 := Lib.hid b5; have HG5 := Lib.hid (And.intro hg5 hg6); clear hN5; have bz5 := b5.size; (try simp at hg5); (try simp at bz5); (try have z50 : w4.heap.size < w5.heap.size := by omega); (try have z51 : w4.heap.size + 1 < w5.heap.size := by omega); (try have z52 : w4.heap.size + 2 < w5.heap.size := by omega); (have q00 := @Below.cell _ _ _ b5 ⟨w4.heap.size, 0, none⟩); (try simp at q00); (have r00 := @Below.frozen _ _ _ b5 ⟨w4.heap.size, 0, none⟩); (try simp at r00); (have q01 := @Below.cell _ _ _ b5 ⟨w4.heap.size, 1, none⟩); (try simp at q01); (have r01 := @Below.frozen _ _ _ b5 ⟨w4.heap.size, 1, none⟩); (try simp at r01); (have q02 := @Below.cell _ _ _ b5 ⟨w4.heap.size, 2, none⟩); (try simp at q02); (have r02 := @Below.frozen _ _ _ b5 ⟨w4.heap.size, 2, none⟩); (try simp at r02); (have q03 := @Below.cell _ _ _ b5 ⟨w4.heap.size, 3, none⟩); (try simp at q03); (have r03 := @Below.frozen _ _ _ b5 ⟨w4.heap.size, 3, none⟩); (try simp at r03); (have q10 := @Below.cell _ _ _ b5 ⟨w4.heap.size + 1, 0, none⟩); (try simp at q10); (have r10 := @Below.frozen _ _ _ b5 ⟨w4.heap.size + 1, 0, none⟩); (try simp at r10); (have q11 := @Below.cell _ _ _ b5 ⟨w4.heap.size + 1, 1, none⟩); (try simp at q11); (have r11 := @Below.frozen _ _ _ b5 ⟨w4.heap.size + 1, 1, none⟩); (try simp at r11); (have q12 := @Below.cell _ _ _ b5 ⟨w4.heap.size + 1, 2, none⟩); (try simp at q12); (have r12 := @Below.frozen _ _ _ b5 ⟨w4.heap.size + 1, 2, none⟩); (try simp at r12); (have q13 := @Below.cell _ _ _ b5 ⟨w4.heap.size + 1, 3, none⟩); (try simp at q13); (have r13 := @Below.frozen _ _ _ b5 ⟨w4.heap.size + 1, 3, none⟩); (try simp at r13); (have q20 := @Below.cell _ _ _ b5 ⟨w4.heap.size + 2, 0, none⟩); (try simp at q20); (have r20 := @Below.frozen _ _ _ b5 ⟨w4.heap.size + 2, 0, none⟩); (try simp at r20); (have q21 := @Below.cell _ _ _ b5 ⟨w4.heap.size + 2, 1, none⟩); (try simp at q21); (have r21 := @Below.frozen _ _ _ b5 ⟨w4.heap.size + 2, 1, none⟩); (try simp at r21); (have q22 := @Below.cell _ _ _ b5 ⟨w4.heap.size + 2, 2, none⟩); (try simp at q22); (have r22 := @Below.frozen _ _ _ b5 ⟨w4.heap.size + 2, 2, none⟩); (try simp at r22); (have q23 := @Below.cell _ _ _ b5 ⟨w4.heap.size + 2, 3, none⟩); (try simp at q23); (have r23 := @Below.frozen _ _ _ b5 ⟨w4.heap.size + 2, 3, none⟩); (try simp at r23)))
    all_goals
      (try clear q00); (try clear r00); (try clear q01); (try clear r01); (try clear q02); (try clear r02); (try clear q03); (try clear r03); (try clear q10); (try clear r10); (try clear q11); (try clear r11); (try clear q12); (try clear r12); (try clear q13); (try clear r13); (try clear q20); (try clear r20); (try clear q21); (try clear r21); (try clear q22); (try clear r22); (try clear q23); (try clear r23)
      clear mk1 mk2 HA HC b5 bw5 d0 d1
      go_wp2_with fail
      go_meet
      apply prog_done
      case h => repeat (first | with_reducible exact p_none hS0 | with_reducible exact p_none (Below.refl _ _) | with_reducible refine p_drew ?_ | with_reducible refine p_ptrs ?_ | with_reducible refine p_marks ?_ | with_reducible refine p_box ?_ (by first | (simp; done) | rfl) | with_reducible refine p_sets ?_ | with_reducible refine p_clone ?_ HB5.out HN5.out HG5.out)
      all_goals (first | (simp; done) | rfl)
  case rest =>
    obtain ⟨bx, lb, ab, g', c', rfl, hbx, hrl, hra, hgr, ⟨n1, n2, n3, n4, n5, n6, n7, n8, n9, n10, n11⟩, hbel⟩ := hcut
    have hB : w.heap.size ≤ w4.heap.size := HB4.out.size
    have hcs := (hbel.cell (p := ⟨w.heap.size, 1, none⟩) (by show w.heap.size < w4.heap.size; omega)).trans d1
    have hres := (hbel.block (w.heap.size + 1) (by omega)).trans HRES4.out
    have hSt : StG 0 (fun k => k = w.heap.size + 1) w.heap.size wc ⟨some ⟨g', 0, none⟩, gn, c', sc, lb, N, ab⟩ l (fun _ => (newDv sc.toNat).fresh fill) (fun _ => false) 0 (fun w' => BoxX ⟨some ⟨g', 0, none⟩, gn, c', sc, lb, N, ab⟩ bx w' ∧ w'.cell? ⟨w.heap.size, 1, none⟩ = some (.int .i64 sc)) := by
      have hzb := World.block_lt_of_cell? wc _ hbx.c0
      have hzc := World.block_lt_of_cell? wc _ hcs
      simp only at hzb hzc
      refine StG.start hra n1 n9 n10 (by show w.heap.size ≤ lb; omega) (by show w.heap.size ≤ ab; omega) (by show ¬ lb = _; omega) (by show ¬ ab = _; omega) (fun k hk => by rw [hk]; have := hbel.size; omega) (fun k hk => by omega) fun w' t => ?_
      have tc : ∀ b o, b < wc.heap.size → b ≠ lb → b ≠ ab → b ≠ w.heap.size + 1 ∧ w.heap.size ≤ b → w'.cell? ⟨b, o, none⟩ = wc.cell? ⟨b, o, none⟩ := fun b o h1 h2 h3 h4 => t.cell h1 fun e => by rcases e with (e | e | e) | e; exact h2 e; exact h3 e; exact h4.1 e; omega
      have tz := t.size
      refine ⟨⟨some ⟨g', 0, none⟩, gn, c', rfl, ⟨hgr.1, hgr.2.1, fun i hi => ?_⟩, hs0, hs1⟩, ⟨(tc _ _ hzb n2 n3 (by omega)).trans hbx.c0, (tc _ _ hzb n2 n3 (by omega)).trans hbx.c1, (tc _ _ hzb n2 n3 (by omega)).trans hbx.c2, (tc _ _ hzb n2 n3 (by omega)).trans hbx.c3⟩, (tc _ _ hzc (by omega) (by omega) (by omega)).trans hcs⟩
      obtain ⟨g2, o2, e2, hx⟩ := hgr.2.2 i hi
      have e3 : g2 = g' := by simp only [Option.some.injEq, Addr.mk.injEq, and_true] at e2; exact e2.1.symm
      have hx0 := hx.lt
      exact ⟨g2, o2, e2, by omega, (tc _ _ hx0 (by omega) (by omega) (by omega)).trans hx.c0, (tc _ _ hx0 (by omega) (by omega) (by omega)).trans hx.c1, hx.k0, hx.k1, hx.w0, hx.w1⟩
    have HST := Lib.hid hSt
    have HBW := Lib.hid (HB4.out.trans (hbel.mono hB))
    have HRES5 := Lib.hid hres
    have HRL : Hid (∀ i, 0 ≤ i → i < N → wc.cell? ⟨lb, i, none⟩ = some (.pointer none) ∧ wc.frozen? ⟨lb, i, none⟩ = false) := Lib.hid fun i _ hi => ⟨hrl.c i hi, hrl.fz i hi⟩
    have hnr1 : w.heap.size + 1 ≠ lb := by omega
    have hnr2 : w.heap.size ≠ lb := by omega
    have HGE : Hid (w.heap.size ≤ lb) := Lib.hid (by omega)
    have hsc0 := HR.out.s0
    have hsc1 := HR.out.s1
    obtain ⟨sn, hsn⟩ : ∃ sn : Nat, sc = (sn : Int) := ⟨sc.toNat, by omega⟩
    subst hsn
    have h1sn : 1 ≤ sn := by omega
    have h4096 : sn ≤ 4096 := by omega
    rw [Int.toNat_natCast] at HST
    clear hSt hbel hres hra hrl hgr d0 d1 n9 n10 HM4 HRES4 HB4 hcs hz2 hz4 hB n4 n5 n6 n7 n8 n11 hbx
    have HN2 := Lib.hid n2
    have HN1 := Lib.hid n1
    clear n1 n2 n3
    go_wp2_with fail
    go_loopw [27] (fun i wr => ∃ j : Nat, j ≤ N ∧ i = .int .i64 j ∧ StG j (fun k => k = w.heap.size + 1) w.heap.size wr ⟨some ⟨g', 0, none⟩, gn, c', (sn : Int), lb, N, ab⟩ l (fun _ => (newDv sn).fresh fill) (fun _ => false) 0 (fun w' => BoxX ⟨some ⟨g', 0, none⟩, gn, c', (sn : Int), lb, N, ab⟩ bx w' ∧ w'.cell? ⟨w.heap.size, 1, none⟩ = some (.int .i64 (sn : Int))) ∧ wr.heap[w.heap.size + 1]? = some (.cells #[.slice none 0 0, .int .i64 0, .slice none 0 0, .slice none 0 0] 37) ∧ (∀ i, j ≤ i → i < N → wr.cell? ⟨lb, i, none⟩ = some (.pointer none) ∧ wr.frozen? ⟨lb, i, none⟩ = false) ∧ Below w.heap.size w wr) (fun i _ => N - (intOf i).toNat)
    case atStart => exact ⟨0, Nat.zero_le _, rfl, HST.out, HRES5.out, HRL.out, HBW.out⟩
    case round =>
      obtain ⟨j, hj, rfl, hst, hre, hrow, hbw⟩ := hrel
      have HS := Lib.hid hst
      have HRE := Lib.hid hre
      have HRO := Lib.hid hrow
      have HBw := Lib.hid hbw
      clear hst hre hrow hbw
      obtain ⟨⟨x0, x1, x2, x3⟩, cs⟩ := HS.out.out
      simp only at x0 x1 x2 x3
      have lbx := World.block_lt_of_cell? wr _ x0
      have lcs := World.block_lt_of_cell? wr _ cs
      simp only at lbx lcs
      by_cases hlt : j < N
      · obtain ⟨cj, fj⟩ := HRO.out j (Nat.le_refl _) hlt
        have llb := World.block_lt_of_cell? wr _ cj
        simp only at llb
        have b0 : Below wr.heap.size wr wr.drew := (Below.refl _ wr).drew
        have HNW : Hid (Calls Tryz.prog 57 #[.int .i64 (sn : Int)] wr.drew fun e w' => ∃ b f, e = .returned (.tuple #[.pointer (some ⟨b, 0, none⟩), .int .i64 0]) ∧ DevAt w' b (newDv sn) f ∧ (∀ k, f k → wr.heap.size ≤ k) ∧ Below wr.heap.size wr w') := Lib.hid ((new_ok sn wr.drew h1sn h4096).mono fun e w' ⟨h1, h2, h3⟩ => ⟨_, _, h1, h2, fun k hk => hk.1, next b0 h3⟩)
        have q1 : (0 : Int) ≤ (j : Int) := by omega
        have q2 : (j : Int) < (N : Int) := by omega
        go_wp2_with fail
        go_region_held3 (fun W => W.cell? ⟨bx, 2, none⟩ = some (.slice (some ⟨lb, 0, none⟩) N N) ∧ W.cell? ⟨w.heap.size, 1, none⟩ = some (.int .i64 (sn : Int)))
          (first | exact ⟨x2, cs⟩ | exact ⟨k0, k1⟩ | exact ⟨m0, m1⟩)
          (first | (go_at_call 57; refine HNW.out.mono ?_; rintro e w7 ⟨b, f, rfl, h7, hf7, b8⟩; have HD7 := Lib.hid h7; have HF7 := Lib.hid hf7; clear h7 hf7; have k0 := (b8.cell (p := ⟨bx, 2, none⟩) lbx).trans x2; have k1 := (b8.cell (p := ⟨w.heap.size, 1, none⟩) lcs).trans cs; have k2 := (b8.cell (p := ⟨lb, j, none⟩) llb).trans cj; have k3 := (b8.frozen (p := ⟨lb, j, none⟩) llb).trans fj; have m0 : (w7.setCell ⟨lb, j, none⟩ (.pointer (some ⟨b, 0, none⟩))).cell? ⟨bx, 2, none⟩ = some (.slice (some ⟨lb, 0, none⟩) N N) := cell_store k0 HN2.out; have m1 : (w7.setCell ⟨lb, j, none⟩ (.pointer (some ⟨b, 0, none⟩))).cell? ⟨w.heap.size, 1, none⟩ = some (.int .i64 (sn : Int)) := cell_store k1 hnr2))
        have HS8 := Lib.hid (HS.out.grow b8 HD7.out HF7.out k2 k3 ⟨rfl, by show ((List.replicate sn (fullS 0)).length : Int) = (sn : Int); rw [List.length_replicate], Nat.le_refl _⟩)
        have HRE8 : Hid ((w7.setCell ⟨lb, j, none⟩ (.pointer (some ⟨b, 0, none⟩))).heap[w.heap.size + 1]? = some (.cells #[.slice none 0 0, .int .i64 0, .slice none 0 0, .slice none 0 0] 37)) := Lib.hid ((Below.heap_setCell _ _ _ _ hnr1).trans ((b8.block _ (lt_of_some HRE.out)).trans HRE.out))
        have HRO8 : Hid (∀ i, j + 1 ≤ i → i < N → (w7.setCell ⟨lb, j, none⟩ (.pointer (some ⟨b, 0, none⟩))).cell? ⟨lb, i, none⟩ = some (.pointer none) ∧ (w7.setCell ⟨lb, j, none⟩ (.pointer (some ⟨b, 0, none⟩))).frozen? ⟨lb, i, none⟩ = false) := Lib.hid fun i hi hiN => by
          obtain ⟨h1, h2⟩ := HRO.out i (by omega) hiN
          refine ⟨?_, ?_⟩
          · rw [World.cell?_setCell_other _ _ _ _ (by intro e; injection e with _ e _; omega)]
            exact (b8.cell (p := ⟨lb, i, none⟩) llb).trans h1
          · rw [World.frozen?_setCell]
            exact (b8.frozen (p := ⟨lb, i, none⟩) llb).trans h2
        have HB8 : Hid (Below w.heap.size w (w7.setCell ⟨lb, j, none⟩ (.pointer (some ⟨b, 0, none⟩)))) := Lib.hid ((HBw.out.trans (b8.mono HS.out.lt.2)).setCell (p := ⟨lb, j, none⟩) HGE.out _)
        obtain ⟨b', f', hc', hd', hdid⟩ := HS8.out.did (i := j) (by omega)
        have e9 : (w7.setCell ⟨lb, j, none⟩ (.pointer (some ⟨b, 0, none⟩))).cell? ⟨lb, j, none⟩ = some (.pointer (some ⟨b, 0, none⟩)) := World.cell?_setCell_same _ _ _ k2
        simp only at hc'
        rw [e9] at hc'
        simp only [Option.some.injEq, Value.pointer.injEq, Addr.mk.injEq, and_true] at hc'
        subst hc'
        rw [upd_same] at hd'
        have HFR := Lib.hid (fresh_any b (newDv sn) f' fill _ hd')
        have HDID := Lib.hid hdid
        clear hd' hdid x0 x1 x3 cj fj k0 k1 k2 k3 b8 HNW b0
        go_wp2_with fail
        refine HFR.out.mono ?_
        rintro e w9 ⟨rfl, hd9⟩
        obtain ⟨h9, b9, hlb9, hX9⟩ := HDID.out _ w9 0 hd9 ⟨rfl, by show ((List.replicate (newDv sn).med.length (fullS fill)).length : Int) = (sn : Int); rw [List.length_replicate]; show ((List.replicate sn (fullS 0)).length : Int) = (sn : Int); rw [List.length_replicate], Nat.zero_le _⟩ (Nat.le_refl _)
        have eds : upd (upd (fun _ => (newDv sn).fresh fill) j (newDv sn)) j ((newDv sn).fresh fill) = fun _ => (newDv sn).fresh fill := by
          funext i
          by_cases e : i = j
          · subst e; rw [upd_same]
          · rw [upd_other _ _ e, upd_other _ _ e]
        rw [eds] at h9
        have HS9 := Lib.hid h9
        have HRE9 := Lib.hid ((hX9 _ rfl).trans HRE8.out)
        have HB9 := Lib.hid (HB8.out.trans b9)
        have HRO9 : Hid (∀ i, j + 1 ≤ i → i < N → w9.cell? ⟨lb, i, none⟩ = some (.pointer none) ∧ w9.frozen? ⟨lb, i, none⟩ = false) := Lib.hid fun i hi hiN => by
          obtain ⟨h1, h2⟩ := HRO8.out i hi hiN
          exact ⟨(World.cell?_of_block hlb9).trans h1, (frozen_of_block hlb9).trans h2⟩
        clear h9 b9 hlb9 hX9 hd9 eds HDID HFR HS8 HRE8 HRO8 HB8 m0 m1 x2 cs e9
        go_wp2
        go_roundw
        case rel => exact ⟨j + 1, by omega, by go_num, HS9.out, HRE9.out, HRO9.out, HB9.out⟩
        case measure => simp [intOf]; omega
      · obtain rfl : j = N := by omega
        have hre := HRE.out
        have r0 : wr.cell? ⟨w.heap.size + 1, 0, none⟩ = some (.slice none 0 0) := by simp [World.cell?, hre]
        have r1 : wr.cell? ⟨w.heap.size + 1, 1, none⟩ = some (.int .i64 0) := by simp [World.cell?, hre]
        have r2 : wr.cell? ⟨w.heap.size + 1, 2, none⟩ = some (.slice none 0 0) := by simp [World.cell?, hre]
        have r3 : wr.cell? ⟨w.heap.size + 1, 3, none⟩ = some (.slice none 0 0) := by simp [World.cell?, hre]
        have z0 : wr.frozen? ⟨w.heap.size + 1, 0, none⟩ = false := by simp [World.frozen?, hre]
        have z1 : wr.frozen? ⟨w.heap.size + 1, 1, none⟩ = false := by simp [World.frozen?, hre]
        have z2 : wr.frozen? ⟨w.heap.size + 1, 2, none⟩ = false := by simp [World.frozen?, hre]
        have z3 : wr.frozen? ⟨w.heap.size + 1, 3, none⟩ = false := by simp [World.frozen?, hre]
        clear hre
        have hW := sets4 (.slice (some ⟨g', 0, none⟩) gn c') (.int .i64 (sn : Int)) (.slice (some ⟨lb, 0, none⟩) j j) (.slice (some ⟨ab, 0, none⟩) j j) HRE.out
        have hT := turn4 wr (w.heap.size + 1) (.slice (some ⟨g', 0, none⟩) gn c') (.int .i64 (sn : Int)) (.slice (some ⟨lb, 0, none⟩) j j) (.slice (some ⟨ab, 0, none⟩) j j)
        have HW := Lib.hid hW
        have HT := Lib.hid hT
        clear hW hT
        go_wp2_with fail
        generalize (((wr.setCell ⟨w.heap.size + 1, 0, none⟩ (.slice (some ⟨g', 0, none⟩) gn c')).setCell ⟨w.heap.size + 1, 1, none⟩ (.int .i64 (sn : Int))).setCell ⟨w.heap.size + 1, 2, none⟩ (.slice (some ⟨lb, 0, none⟩) j j)).setCell ⟨w.heap.size + 1, 3, none⟩ (.slice (some ⟨ab, 0, none⟩) j j) = W at HW HT ⊢
        have hW := HW.out
        have s0 : W.cell? ⟨w.heap.size + 1, 0, none⟩ = some (.slice (some ⟨g', 0, none⟩) gn c') := by simp [World.cell?, hW]
        have s1 : W.cell? ⟨w.heap.size + 1, 1, none⟩ = some (.int .i64 (sn : Int)) := by simp [World.cell?, hW]
        have s2 : W.cell? ⟨w.heap.size + 1, 2, none⟩ = some (.slice (some ⟨lb, 0, none⟩) j j) := by simp [World.cell?, hW]
        have s3 : W.cell? ⟨w.heap.size + 1, 3, none⟩ = some (.slice (some ⟨ab, 0, none⟩) j j) := by simp [World.cell?, hW]
        clear hW
        refine bodyPost_ret (v := .tuple #[.agg #[.slice (some ⟨g', 0, none⟩) gn c', .int .i64 (sn : Int), .slice (some ⟨lb, 0, none⟩) j j, .slice (some ⟨ab, 0, none⟩) j j], .int .i64 0]) (by simp [results, Tryz.results27, go_sem, s0, s1, s2, s3]) rfl ⟨⟨some ⟨g', 0, none⟩, gn, c', (sn : Int), lb, j, ab⟩, rfl, rfl, ⟨HR.out, HDN.out, ?_⟩, ?_⟩
        · rw [Int.toNat_natCast]
          exact (HS.out.turnX HT.out (fun k hk => hk.elim) (fun k hk => hk.elim) HS.out.lt.2).mono fun _ _ => trivial
        · exact HBw.out.trans (HT.out.below (fun k hk => by omega) HS.out.lt.2)
end Go.Proofs.YtiffkbmcikiioaaGreat
