/-
  vdev.New: the walk.
  vdev.New of a measure that isn't right; Right and Here of no devices; Here.
  polderlaw08.Devices: a measure's devices, some of them away, some lost.
  polderlaw08.awake.
  What devices read as behind writing, flushing and a crash (no program is named here).
  few of the laws; code.Bad.
  A crash of a pool's devices; what is read behind it; columns as they are encoded have no bad one.
  New devices: none fails.
  The document's answers: Right, Takes, Bytes (polderref05).
  The document's First, May (polderref06).
  The document's Of (polderref06): the same columns.
  The document's Of (polderref06), of a Parity.
-/
import Derived.Test.YtlhnmcopioeboaaGreatMf
import Derived.Maps.AppendAt
import Derived.Deep.RegionWith
import Derived.Handy
import Derived.StillTailTactics
import Derived.Lib.AppendZeros

/- vdev.New: the walk. -/
namespace Go.Proofs.YtlhnmcopioeboaaGreat
set_option maxRecDepth 100000
open Go.RowKit Go.Maps M

set_option maxHeartbeats 8000000 in
theorem new8_ok (l : List (Int × Int)) (sc : Int) (v : Value) (w : World) (h : Meas w v l sc) (hr : RightM l sc) (fill : UInt8) :
    Calls Tryz.prog 11 #[v, .int .u8 (fill.toNat : Int)] w fun e w' => ∃ x : Px, e = .returned (.tuple #[x.val, .int .i64 0]) ∧ x.sc = sc ∧ St w.heap.size w' x l (fun _ => (newDv sc.toNat).fresh fill) (fun _ => false) 0 (fun _ => True) ∧ Below w.heap.size w w' := by
  obtain ⟨a, gn, gc, rfl, hg, hs0, hs1⟩ := id h
  obtain ⟨N, hN⟩ : ∃ N : Nat, devsL l sc = (N : Int) := by
    have := hr.bounds l.length (Nat.le_refl _)
    unfold devsL
    rw [rightM_iff.2 hr, if_pos rfl]
    exact ⟨(aheadL l l.length).toNat, by omega⟩
  obtain ⟨hN1, hN32⟩ := hr.devs hN
  have hgn : l.length = gn := hg.2.1
  have hgn0 := hr.pos
  have hgn4 := hr.few
  obtain ⟨g, o, rfl, hgl⟩ := hg.2.2 0 hgn0
  have b1 := boxed w (.cells #[.slice (some ⟨g, o, none⟩) gn gc, .int .i64 sc] 24)
  have b2 := boxed (w.alloc (.cells #[.slice (some ⟨g, o, none⟩) gn gc, .int .i64 sc] 24)) (.cells #[.slice none 0 0, .int .i64 0, .slice none 0 0, .slice none 0 0] 31)
  have bb := next b1 b2
  have c0 : ((w.alloc (.cells #[.slice (some ⟨g, o, none⟩) gn gc, .int .i64 sc] 24)).alloc (.cells #[.slice none 0 0, .int .i64 0, .slice none 0 0, .slice none 0 0] 31)).cell? ⟨w.heap.size, 0, none⟩ = some (.slice (some ⟨g, o, none⟩) gn gc) := by rw [b2.cell (p := ⟨w.heap.size, 0, none⟩) (by simp)]; simp
  have c1 : ((w.alloc (.cells #[.slice (some ⟨g, o, none⟩) gn gc, .int .i64 sc] 24)).alloc (.cells #[.slice none 0 0, .int .i64 0, .slice none 0 0, .slice none 0 0] 31)).cell? ⟨w.heap.size, 1, none⟩ = some (.int .i64 sc) := by rw [b2.cell (p := ⟨w.heap.size, 1, none⟩) (by simp)]; simp
  have hres : ((w.alloc (.cells #[.slice (some ⟨g, o, none⟩) gn gc, .int .i64 sc] 24)).alloc (.cells #[.slice none 0 0, .int .i64 0, .slice none 0 0, .slice none 0 0] 31)).heap[w.heap.size + 1]? = some (.cells #[.slice none 0 0, .int .i64 0, .slice none 0 0, .slice none 0 0] 31) := by
    have := heap_alloc_new (w.alloc (.cells #[.slice (some ⟨g, o, none⟩) gn gc, .int .i64 sc] 24)) (.cells #[.slice none 0 0, .int .i64 0, .slice none 0 0, .slice none 0 0] 31)
    simpa using this
  have hz2 : ((w.alloc (.cells #[.slice (some ⟨g, o, none⟩) gn gc, .int .i64 sc] 24)).alloc (.cells #[.slice none 0 0, .int .i64 0, .slice none 0 0, .slice none 0 0] 31)).heap.size = w.heap.size + 2 := by simp
  generalize hw2 : (w.alloc (.cells #[.slice (some ⟨g, o, none⟩) gn gc, .int .i64 sc] 24)).alloc (.cells #[.slice none 0 0, .int .i64 0, .slice none 0 0, .slice none 0 0] 31) = w2 at b2 bb c0 c1 hres hz2
  have HW2 := Lib.hid hw2
  have HM := Lib.hid (h.below bb)
  have HRI := Lib.hid (right_any l sc _ w2 HM.out true (rightM_iff.2 hr))
  have HR := Lib.hid hr
  have HDN := Lib.hid hN
  have HBB := Lib.hid bb
  have HRES := Lib.hid hres
  clear h hg b1 b2 bb hr hN hgl hw2 hres
  go_enter Tryz.func11, Tryz.ntmps11
  go_wp2_with (first | (rw [HW2.out]; fail))
  rw [HW2.out]
  go_wp2_with fail
  refine HRI.out.mono ?_
  rintro e w3 ⟨rfl, b3⟩
  have HD := Lib.hid (devs_any l sc _ w3 (HM.out.below b3) (N : Int) HDN.out)
  have c0' := (b3.cell (p := ⟨w.heap.size, 0, none⟩) (by simp; omega)).trans c0
  have c1' := (b3.cell (p := ⟨w.heap.size, 1, none⟩) (by simp; omega)).trans c1
  go_wp2_with fail
  refine HD.out.mono ?_
  rintro e w4 ⟨rfl, b4⟩
  have b34 := next b3 b4
  have HM4 := Lib.hid (HM.out.below b34)
  have d0 := (b34.cell (p := ⟨w.heap.size, 0, none⟩) (by simp; omega)).trans c0
  have d1 := (b34.cell (p := ⟨w.heap.size, 1, none⟩) (by simp; omega)).trans c1
  have HB4 := Lib.hid (next HBB.out b34)
  have HRES4 := Lib.hid ((b34.block (w.heap.size + 1) (by omega)).trans HRES.out)
  have hz4 : w.heap.size + 2 ≤ w4.heap.size := by have := b34.size; omega
  clear c0 c1 c0' c1' b3 b4 b34 HM HD HRI HBB HRES
  go_upto_region 4 with (fail)
  go_cut [7] (fun s7 wc => NewRel w4 l sc gn N s7 wc)
  case first =>
    have hS0 : Below w4.heap.size w4 w4.drew := (Below.refl _ w4).drew
    have mk1 := fun V => make_ptrs V N (by omega)
    have mk2 := fun V => make_marks V N (by omega)
    have l0 : w.heap.size < w4.heap.size := by omega
    have HA : Hid (∀ W : World, Below w4.heap.size w4 W → W.cell? ⟨w.heap.size, 0, none⟩ = some (.slice (some ⟨g, o, none⟩) gn gc) ∧ W.cell? ⟨w.heap.size, 1, none⟩ = some (.int .i64 sc) ∧ Below w4.heap.size w4 W) := Lib.hid fun W hb =>
      ⟨(hb.cell (p := ⟨w.heap.size, 0, none⟩) l0).trans d0, (hb.cell (p := ⟨w.heap.size, 1, none⟩) l0).trans d1, hb⟩
    have HC : Hid (∀ W : World, (W.cell? ⟨w.heap.size, 0, none⟩ = some (.slice (some ⟨g, o, none⟩) gn gc) ∧ W.cell? ⟨w.heap.size, 1, none⟩ = some (.int .i64 sc) ∧ Below w4.heap.size w4 W) → Calls Tryz.prog 31 #[.slice (some ⟨g, o, none⟩) gn gc] W fun e w' => ∃ g' c', e = .returned (.slice (some ⟨g', 0, none⟩) gn c') ∧ (W.heap.size ≤ g' ∧ g' < w'.heap.size) ∧ New W.heap.size w' (fun w => Grps w (some ⟨g', 0, none⟩) gn l) ∧ Below W.heap.size W w' ∧ Below w4.heap.size w4 w') := Lib.hid fun W ⟨_, _, hb⟩ => by
      obtain ⟨a', n', cc', ev, hG, _⟩ := HM4.out.below hb
      cases ev
      exact (clone_grp l g o gn gc W hG (by omega) (by omega)).mono fun e w' ⟨g', c', h1, h2, h3, h4⟩ => ⟨g', c', h1, ⟨h2, by obtain ⟨g2, o2, e2, hx⟩ := h3.out.2.2 0 hgn0; cases e2; exact hx.lt⟩, h3, h4, next hb h4⟩
    go_region_held3 (fun W => W.cell? ⟨w.heap.size, 0, none⟩ = some (.slice (some ⟨g, o, none⟩) gn gc) ∧ W.cell? ⟨w.heap.size, 1, none⟩ = some (.int .i64 sc) ∧ Below w4.heap.size w4 W)
      ((refine HA.out _ ?_; repeat (first | with_reducible exact hS0 | with_reducible exact bw5 | with_reducible exact Below.refl _ _ | with_reducible refine grows_alloc ?_ _ | with_reducible refine grows_set ?_ (by omega) _ | with_reducible refine Below.drew ?_)))
      (first
      | (go_at_call 31; refine (HC.out _ ?_).mono ?_; assumption; rintro e w5 ⟨g', c', rfl, ⟨hg5, hg6⟩, hN5, b5, bw5⟩; have HN5 := Lib.hid hN5; have HB5 := Lib.hid b5; have HG5 := Lib.hid (And.intro hg5 hg6); clear hN5; have bz5 := b5.size; (try simp at hg5); (try simp at bz5); (try have z50 : w4.heap.size < w5.heap.size := by omega); (try have z51 : w4.heap.size + 1 < w5.heap.size := by omega); (try have z52 : w4.heap.size + 2 < w5.heap.size := by omega); (have q00 := @Below.cell _ _ _ b5 ⟨w4.heap.size, 0, none⟩); (try simp at q00); (have r00 := @Below.frozen _ _ _ b5 ⟨w4.heap.size, 0, none⟩); (try simp at r00); (have q01 := @Below.cell _ _ _ b5 ⟨w4.heap.size, 1, none⟩); (try simp at q01); (have r01 := @Below.frozen _ _ _ b5 ⟨w4.heap.size, 1, none⟩); (try simp at r01); (have q02 := @Below.cell _ _ _ b5 ⟨w4.heap.size, 2, none⟩); (try simp at q02); (have r02 := @Below.frozen _ _ _ b5 ⟨w4.heap.size, 2, none⟩); (try simp at r02); (have q03 := @Below.cell _ _ _ b5 ⟨w4.heap.size, 3, none⟩); (try simp at q03); (have r03 := @Below.frozen _ _ _ b5 ⟨w4.heap.size, 3, none⟩); (try simp at r03); (have q10 := @Below.cell _ _ _ b5 ⟨w4.heap.size + 1, 0, none⟩); (try simp at q10); (have r10 := @Below.frozen _ _ _ b5 ⟨w4.heap.size + 1, 0, none⟩); (try simp at r10); (have q11 := @Below.cell _ _ _ b5 ⟨w4.heap.size + 1, 1, none⟩); (try simp at q11); (have r11 := @Below.frozen _ _ _ b5 ⟨w4.heap.size + 1, 1, none⟩); (try simp at r11); (have q12 := @Below.cell _ _ _ b5 ⟨w4.heap.size + 1, 2, none⟩); (try simp at q12); (have r12 := @Below.frozen _ _ _ b5 ⟨w4.heap.size + 1, 2, none⟩); (try simp at r12); (have q13 := @Below.cell _ _ _ b5 ⟨w4.heap.size + 1, 3, none⟩); (try simp at q13); (have r13 := @Below.frozen _ _ _ b5 ⟨w4.heap.size + 1, 3, none⟩); (try simp at r13); (have q20 := @Below.cell _ _ _ b5 ⟨w4.heap.size + 2, 0, none⟩); (try simp at q20); (have r20 := @Below.frozen _ _ _ b5 ⟨w4.heap.size + 2, 0, none⟩); (try simp at r20); (have q21 := @Below.cell _ _ _ b5 ⟨w4.heap.size + 2, 1, none⟩); (try simp at q21); (have r21 := @Below.frozen _ _ _ b5 ⟨w4.heap.size + 2, 1, none⟩); (try simp at r21); (have q22 := @Below.cell _ _ _ b5 ⟨w4.heap.size + 2, 2, none⟩); (try simp at q22); (have r22 := @Below.frozen _ _ _ b5 ⟨w4.heap.size + 2, 2, none⟩); (try simp at r22); (have q23 := @Below.cell _ _ _ b5 ⟨w4.heap.size + 2, 3, none⟩); (try simp at q23); (have r23 := @Below.frozen _ _ _ b5 ⟨w4.heap.size + 2, 3, none⟩); (try simp at r23)))
    all_goals
      (try clear q00); (try clear r00); (try clear q01); (try clear r01); (try clear q02); (try clear r02); (try clear q03); (try clear r03); (try clear q10); (try clear r10); (try clear q11); (try clear r11); (try clear q12); (try clear r12); (try clear q13); (try clear r13); (try clear q20); (try clear r20); (try clear q21); (try clear r21); (try clear q22); (try clear r22); (try clear q23); (try clear r23)
      clear mk1 mk2 HA HC b5 bw5 d0 d1
      go_wp2_with fail
      go_meet
      apply prog_done
      case h => repeat (first | with_reducible exact p_none hS0 | with_reducible exact p_none (Below.refl _ _) | with_reducible refine p_drew ?_ | with_reducible refine p_ptrs ?_ | with_reducible refine p_marks ?_ | with_reducible refine p_box ?_ (by first | (simp; done) | rfl) | with_reducible refine p_sets ?_ | with_reducible refine p_clone ?_ HB5.out HN5.out HG5.out)
      all_goals (first | (simp; done) | rfl)
  case rest =>
    obtain ⟨bx, lb, ab, g', c', rfl, hbx, hrl, hra, hgr, ⟨n1, n2, n3, n4, n5, n6, n7, n8, n9, n10, n11⟩, hbel⟩ := hcut
    have hB : w.heap.size ≤ w4.heap.size := HB4.out.size
    have hcs := (hbel.cell (p := ⟨w.heap.size, 1, none⟩) (by show w.heap.size < w4.heap.size; omega)).trans d1
    have hres := (hbel.block (w.heap.size + 1) (by omega)).trans HRES4.out
    have hSt : StG 0 (fun k => k = w.heap.size + 1) w.heap.size wc ⟨some ⟨g', 0, none⟩, gn, c', sc, lb, N, ab⟩ l (fun _ => (newDv sc.toNat).fresh fill) (fun _ => false) 0 (fun w' => BoxX ⟨some ⟨g', 0, none⟩, gn, c', sc, lb, N, ab⟩ bx w' ∧ w'.cell? ⟨w.heap.size, 1, none⟩ = some (.int .i64 sc)) := by
      have hzb := World.block_lt_of_cell? wc _ hbx.c0
      have hzc := World.block_lt_of_cell? wc _ hcs
      simp only at hzb hzc
      refine StG.start hra n1 n9 n10 (by show w.heap.size ≤ lb; omega) (by show w.heap.size ≤ ab; omega) (by show ¬ lb = _; omega) (by show ¬ ab = _; omega) (fun k hk => by rw [hk]; have := hbel.size; omega) (fun k hk => by omega) fun w' t => ?_
      have tc : ∀ b o, b < wc.heap.size → b ≠ lb → b ≠ ab → b ≠ w.heap.size + 1 ∧ w.heap.size ≤ b → w'.cell? ⟨b, o, none⟩ = wc.cell? ⟨b, o, none⟩ := fun b o h1 h2 h3 h4 => t.cell h1 fun e => by rcases e with (e | e | e) | e; exact h2 e; exact h3 e; exact h4.1 e; omega
      have tz := t.size
      refine ⟨⟨some ⟨g', 0, none⟩, gn, c', rfl, ⟨hgr.1, hgr.2.1, fun i hi => ?_⟩, hs0, hs1⟩, ⟨(tc _ _ hzb n2 n3 (by omega)).trans hbx.c0, (tc _ _ hzb n2 n3 (by omega)).trans hbx.c1, (tc _ _ hzb n2 n3 (by omega)).trans hbx.c2, (tc _ _ hzb n2 n3 (by omega)).trans hbx.c3⟩, (tc _ _ hzc (by omega) (by omega) (by omega)).trans hcs⟩
      obtain ⟨g2, o2, e2, hx⟩ := hgr.2.2 i hi
      have e3 : g2 = g' := by simp only [Option.some.injEq, Addr.mk.injEq, and_true] at e2; exact e2.1.symm
      have hx0 := hx.lt
      exact ⟨g2, o2, e2, by omega, (tc _ _ hx0 (by omega) (by omega) (by omega)).trans hx.c0, (tc _ _ hx0 (by omega) (by omega) (by omega)).trans hx.c1, hx.k0, hx.k1, hx.w0, hx.w1⟩
    have HST := Lib.hid hSt
    have HBW := Lib.hid (HB4.out.trans (hbel.mono hB))
    have HRES5 := Lib.hid hres
    have HRL : Hid (∀ i, 0 ≤ i → i < N → wc.cell? ⟨lb, i, none⟩ = some (.pointer none) ∧ wc.frozen? ⟨lb, i, none⟩ = false) := Lib.hid fun i _ hi => ⟨hrl.c i hi, hrl.fz i hi⟩
    have hnr1 : w.heap.size + 1 ≠ lb := by omega
    have hnr2 : w.heap.size ≠ lb := by omega
    have HGE : Hid (w.heap.size ≤ lb) := Lib.hid (by omega)
    have hsc0 := HR.out.s0
    have hsc1 := HR.out.s1
    obtain ⟨sn, hsn⟩ : ∃ sn : Nat, sc = (sn : Int) := ⟨sc.toNat, by omega⟩
    subst hsn
    have h1sn : 1 ≤ sn := by omega
    have h4096 : sn ≤ 4096 := by omega
    rw [Int.toNat_natCast] at HST
    clear hSt hbel hres hra hrl hgr d0 d1 n9 n10 HM4 HRES4 HB4 hcs hz2 hz4 hB n4 n5 n6 n7 n8 n11 hbx
    have HN2 := Lib.hid n2
    have HN1 := Lib.hid n1
    clear n1 n2 n3
    go_wp2_with fail
    go_loopw [27] (fun i wr => ∃ j : Nat, j ≤ N ∧ i = .int .i64 j ∧ StG j (fun k => k = w.heap.size + 1) w.heap.size wr ⟨some ⟨g', 0, none⟩, gn, c', (sn : Int), lb, N, ab⟩ l (fun _ => (newDv sn).fresh fill) (fun _ => false) 0 (fun w' => BoxX ⟨some ⟨g', 0, none⟩, gn, c', (sn : Int), lb, N, ab⟩ bx w' ∧ w'.cell? ⟨w.heap.size, 1, none⟩ = some (.int .i64 (sn : Int))) ∧ wr.heap[w.heap.size + 1]? = some (.cells #[.slice none 0 0, .int .i64 0, .slice none 0 0, .slice none 0 0] 31) ∧ (∀ i, j ≤ i → i < N → wr.cell? ⟨lb, i, none⟩ = some (.pointer none) ∧ wr.frozen? ⟨lb, i, none⟩ = false) ∧ Below w.heap.size w wr) (fun i _ => N - (intOf i).toNat)
    case atStart => exact ⟨0, Nat.zero_le _, rfl, HST.out, HRES5.out, HRL.out, HBW.out⟩
    case round =>
      obtain ⟨j, hj, rfl, hst, hre, hrow, hbw⟩ := hrel
      have HS := Lib.hid hst
      have HRE := Lib.hid hre
      have HRO := Lib.hid hrow
      have HBw := Lib.hid hbw
      clear hst hre hrow hbw
      obtain ⟨⟨x0, x1, x2, x3⟩, cs⟩ := HS.out.out
      simp only at x0 x1 x2 x3
      have lbx := World.block_lt_of_cell? wr _ x0
      have lcs := World.block_lt_of_cell? wr _ cs
      simp only at lbx lcs
      by_cases hlt : j < N
      · obtain ⟨cj, fj⟩ := HRO.out j (Nat.le_refl _) hlt
        have llb := World.block_lt_of_cell? wr _ cj
        simp only at llb
        have b0 : Below wr.heap.size wr wr.drew := (Below.refl _ wr).drew
        have HNW : Hid (Calls Tryz.prog 32 #[.int .i64 (sn : Int)] wr.drew fun e w' => ∃ b f, e = .returned (.tuple #[.pointer (some ⟨b, 0, none⟩), .int .i64 0]) ∧ DevAt w' b (newDv sn) f ∧ (∀ k, f k → wr.heap.size ≤ k) ∧ Below wr.heap.size wr w') := Lib.hid ((new_ok sn wr.drew h1sn h4096).mono fun e w' ⟨h1, h2, h3⟩ => ⟨_, _, h1, h2, fun k hk => hk.1, next b0 h3⟩)
        have q1 : (0 : Int) ≤ (j : Int) := by omega
        have q2 : (j : Int) < (N : Int) := by omega
        go_wp2_with fail
        go_region_held3 (fun W => W.cell? ⟨bx, 2, none⟩ = some (.slice (some ⟨lb, 0, none⟩) N N) ∧ W.cell? ⟨w.heap.size, 1, none⟩ = some (.int .i64 (sn : Int)))
          (first | exact ⟨x2, cs⟩ | exact ⟨k0, k1⟩ | exact ⟨m0, m1⟩)
          (first | (go_at_call 32; refine HNW.out.mono ?_; rintro e w7 ⟨b, f, rfl, h7, hf7, b8⟩; have HD7 := Lib.hid h7; have HF7 := Lib.hid hf7; clear h7 hf7; have k0 := (b8.cell (p := ⟨bx, 2, none⟩) lbx).trans x2; have k1 := (b8.cell (p := ⟨w.heap.size, 1, none⟩) lcs).trans cs; have k2 := (b8.cell (p := ⟨lb, j, none⟩) llb).trans cj; have k3 := (b8.frozen (p := ⟨lb, j, none⟩) llb).trans fj; have m0 : (w7.setCell ⟨lb, j, none⟩ (.pointer (some ⟨b, 0, none⟩))).cell? ⟨bx, 2, none⟩ = some (.slice (some ⟨lb, 0, none⟩) N N) := cell_store k0 HN2.out; have m1 : (w7.setCell ⟨lb, j, none⟩ (.pointer (some ⟨b, 0, none⟩))).cell? ⟨w.heap.size, 1, none⟩ = some (.int .i64 (sn : Int)) := cell_store k1 hnr2))
        have HS8 := Lib.hid (HS.out.grow b8 HD7.out HF7.out k2 k3 ⟨rfl, by show ((List.replicate sn (fullS 0)).length : Int) = (sn : Int); rw [List.length_replicate], Nat.le_refl _⟩)
        have HRE8 : Hid ((w7.setCell ⟨lb, j, none⟩ (.pointer (some ⟨b, 0, none⟩))).heap[w.heap.size + 1]? = some (.cells #[.slice none 0 0, .int .i64 0, .slice none 0 0, .slice none 0 0] 31)) := Lib.hid ((Below.heap_setCell _ _ _ _ hnr1).trans ((b8.block _ (lt_of_some HRE.out)).trans HRE.out))
        have HRO8 : Hid (∀ i, j + 1 ≤ i → i < N → (w7.setCell ⟨lb, j, none⟩ (.pointer (some ⟨b, 0, none⟩))).cell? ⟨lb, i, none⟩ = some (.pointer none) ∧ (w7.setCell ⟨lb, j, none⟩ (.pointer (some ⟨b, 0, none⟩))).frozen? ⟨lb, i, none⟩ = false) := Lib.hid fun i hi hiN => by
          obtain ⟨h1, h2⟩ := HRO.out i (by omega) hiN
          refine ⟨?_, ?_⟩
          · rw [World.cell?_setCell_other _ _ _ _ (by intro e; injection e with _ e _; omega)]
            exact (b8.cell (p := ⟨lb, i, none⟩) llb).trans h1
          · rw [World.frozen?_setCell]
            exact (b8.frozen (p := ⟨lb, i, none⟩) llb).trans h2
        have HB8 : Hid (Below w.heap.size w (w7.setCell ⟨lb, j, none⟩ (.pointer (some ⟨b, 0, none⟩)))) := Lib.hid ((HBw.out.trans (b8.mono HS.out.lt.2)).setCell (p := ⟨lb, j, none⟩) HGE.out _)
        obtain ⟨b', f', hc', hd', hdid⟩ := HS8.out.did (i := j) (by omega)
        have e9 : (w7.setCell ⟨lb, j, none⟩ (.pointer (some ⟨b, 0, none⟩))).cell? ⟨lb, j, none⟩ = some (.pointer (some ⟨b, 0, none⟩)) := World.cell?_setCell_same _ _ _ k2
        simp only at hc'
        rw [e9] at hc'
        simp only [Option.some.injEq, Value.pointer.injEq, Addr.mk.injEq, and_true] at hc'
        subst hc'
        rw [upd_same] at hd'
        have HFR := Lib.hid (fresh_any b (newDv sn) f' fill _ hd')
        have HDID := Lib.hid hdid
        clear hd' hdid x0 x1 x3 cj fj k0 k1 k2 k3 b8 HNW b0
        go_wp2_with fail
        refine HFR.out.mono ?_
        rintro e w9 ⟨rfl, hd9⟩
        obtain ⟨h9, b9, hlb9, hX9⟩ := HDID.out _ w9 0 hd9 ⟨rfl, by show ((List.replicate (newDv sn).med.length (fullS fill)).length : Int) = (sn : Int); rw [List.length_replicate]; show ((List.replicate sn (fullS 0)).length : Int) = (sn : Int); rw [List.length_replicate], Nat.zero_le _⟩ (Nat.le_refl _)
        have eds : upd (upd (fun _ => (newDv sn).fresh fill) j (newDv sn)) j ((newDv sn).fresh fill) = fun _ => (newDv sn).fresh fill := by
          funext i
          by_cases e : i = j
          · subst e; rw [upd_same]
          · rw [upd_other _ _ e, upd_other _ _ e]
        rw [eds] at h9
        have HS9 := Lib.hid h9
        have HRE9 := Lib.hid ((hX9 _ rfl).trans HRE8.out)
        have HB9 := Lib.hid (HB8.out.trans b9)
        have HRO9 : Hid (∀ i, j + 1 ≤ i → i < N → w9.cell? ⟨lb, i, none⟩ = some (.pointer none) ∧ w9.frozen? ⟨lb, i, none⟩ = false) := Lib.hid fun i hi hiN => by
          obtain ⟨h1, h2⟩ := HRO8.out i hi hiN
          exact ⟨(World.cell?_of_block hlb9).trans h1, (frozen_of_block hlb9).trans h2⟩
        clear h9 b9 hlb9 hX9 hd9 eds HDID HFR HS8 HRE8 HRO8 HB8 m0 m1 x2 cs e9
        go_wp2
        go_roundw
        case rel => exact ⟨j + 1, by omega, by go_num, HS9.out, HRE9.out, HRO9.out, HB9.out⟩
        case measure => simp [intOf]; omega
      · obtain rfl : j = N := by omega
        have hre := HRE.out
        have r0 : wr.cell? ⟨w.heap.size + 1, 0, none⟩ = some (.slice none 0 0) := by simp [World.cell?, hre]
        have r1 : wr.cell? ⟨w.heap.size + 1, 1, none⟩ = some (.int .i64 0) := by simp [World.cell?, hre]
        have r2 : wr.cell? ⟨w.heap.size + 1, 2, none⟩ = some (.slice none 0 0) := by simp [World.cell?, hre]
        have r3 : wr.cell? ⟨w.heap.size + 1, 3, none⟩ = some (.slice none 0 0) := by simp [World.cell?, hre]
        have z0 : wr.frozen? ⟨w.heap.size + 1, 0, none⟩ = false := by simp [World.frozen?, hre]
        have z1 : wr.frozen? ⟨w.heap.size + 1, 1, none⟩ = false := by simp [World.frozen?, hre]
        have z2 : wr.frozen? ⟨w.heap.size + 1, 2, none⟩ = false := by simp [World.frozen?, hre]
        have z3 : wr.frozen? ⟨w.heap.size + 1, 3, none⟩ = false := by simp [World.frozen?, hre]
        clear hre
        have hW := sets4 (.slice (some ⟨g', 0, none⟩) gn c') (.int .i64 (sn : Int)) (.slice (some ⟨lb, 0, none⟩) j j) (.slice (some ⟨ab, 0, none⟩) j j) HRE.out
        have hT := turn4 wr (w.heap.size + 1) (.slice (some ⟨g', 0, none⟩) gn c') (.int .i64 (sn : Int)) (.slice (some ⟨lb, 0, none⟩) j j) (.slice (some ⟨ab, 0, none⟩) j j)
        have HW := Lib.hid hW
        have HT := Lib.hid hT
        clear hW hT
        go_wp2_with fail
        generalize (((wr.setCell ⟨w.heap.size + 1, 0, none⟩ (.slice (some ⟨g', 0, none⟩) gn c')).setCell ⟨w.heap.size + 1, 1, none⟩ (.int .i64 (sn : Int))).setCell ⟨w.heap.size + 1, 2, none⟩ (.slice (some ⟨lb, 0, none⟩) j j)).setCell ⟨w.heap.size + 1, 3, none⟩ (.slice (some ⟨ab, 0, none⟩) j j) = W at HW HT ⊢
        have hW := HW.out
        have s0 : W.cell? ⟨w.heap.size + 1, 0, none⟩ = some (.slice (some ⟨g', 0, none⟩) gn c') := by simp [World.cell?, hW]
        have s1 : W.cell? ⟨w.heap.size + 1, 1, none⟩ = some (.int .i64 (sn : Int)) := by simp [World.cell?, hW]
        have s2 : W.cell? ⟨w.heap.size + 1, 2, none⟩ = some (.slice (some ⟨lb, 0, none⟩) j j) := by simp [World.cell?, hW]
        have s3 : W.cell? ⟨w.heap.size + 1, 3, none⟩ = some (.slice (some ⟨ab, 0, none⟩) j j) := by simp [World.cell?, hW]
        clear hW
        refine bodyPost_ret (v := .tuple #[.agg #[.slice (some ⟨g', 0, none⟩) gn c', .int .i64 (sn : Int), .slice (some ⟨lb, 0, none⟩) j j, .slice (some ⟨ab, 0, none⟩) j j], .int .i64 0]) (by simp [results, Tryz.results11, go_sem, s0, s1, s2, s3]) rfl ⟨⟨some ⟨g', 0, none⟩, gn, c', (sn : Int), lb, j, ab⟩, rfl, rfl, ⟨HR.out, HDN.out, ?_⟩, ?_⟩
        · rw [Int.toNat_natCast]
          exact (HS.out.turnX HT.out (fun k hk => hk.elim) (fun k hk => hk.elim) HS.out.lt.2).mono fun _ _ => trivial
        · exact HBw.out.trans (HT.out.below (fun k hk => by omega) HS.out.lt.2)
end Go.Proofs.YtlhnmcopioeboaaGreat

/- vdev.New of a measure that isn't right; Right and Here of no devices; Here. -/
namespace Go.Proofs.YtlhnmcopioeboaaGreat
set_option maxRecDepth 100000
open Go.RowKit Go.Maps M

/-- No devices. -/
def noDevs : Value := .agg #[.slice none 0 0, .int .i64 0, .slice none 0 0, .slice none 0 0]
theorem new8_bad (l : List (Int × Int)) (sc : Int) (v : Value) (w : World) (h : Meas w v l sc) (hr : rightL l sc = false) (fill : Int) :
    Calls Tryz.prog 11 #[v, .int .u8 fill] w fun e w' => e = .returned (.tuple #[noDevs, .int .i64 1]) ∧ Below w.heap.size w w' := by
  obtain ⟨a, gn, gc, rfl, hg, hs0, hs1⟩ := id h
  have b1 := boxed w (.cells #[.slice a gn gc, .int .i64 sc] 24)
  have b2 := boxed (w.alloc (.cells #[.slice a gn gc, .int .i64 sc] 24)) (.cells #[.slice none 0 0, .int .i64 0, .slice none 0 0, .slice none 0 0] 31)
  have bb := next b1 b2
  have hres : ((w.alloc (.cells #[.slice a gn gc, .int .i64 sc] 24)).alloc (.cells #[.slice none 0 0, .int .i64 0, .slice none 0 0, .slice none 0 0] 31)).heap[w.heap.size + 1]? = some (.cells #[.slice none 0 0, .int .i64 0, .slice none 0 0, .slice none 0 0] 31) := by
    have := heap_alloc_new (w.alloc (.cells #[.slice a gn gc, .int .i64 sc] 24)) (.cells #[.slice none 0 0, .int .i64 0, .slice none 0 0, .slice none 0 0] 31)
    simpa using this
  have hz2 : ((w.alloc (.cells #[.slice a gn gc, .int .i64 sc] 24)).alloc (.cells #[.slice none 0 0, .int .i64 0, .slice none 0 0, .slice none 0 0] 31)).heap.size = w.heap.size + 2 := by simp
  have HRI := Lib.hid (right_any l sc _ _ (h.below bb) false hr)
  have HBB := Lib.hid bb
  have HRES := Lib.hid hres
  clear h hg b1 b2 bb hr hres
  go_enter Tryz.func11, Tryz.ntmps11
  go_wp2_with fail
  refine HRI.out.mono ?_
  rintro e w3 ⟨rfl, b3⟩
  have hre := (b3.block (w.heap.size + 1) (by omega)).trans HRES.out
  have r0 : w3.cell? ⟨w.heap.size + 1, 0, none⟩ = some (.slice none 0 0) := by simp [World.cell?, hre]
  have r1 : w3.cell? ⟨w.heap.size + 1, 1, none⟩ = some (.int .i64 0) := by simp [World.cell?, hre]
  have r2 : w3.cell? ⟨w.heap.size + 1, 2, none⟩ = some (.slice none 0 0) := by simp [World.cell?, hre]
  have r3 : w3.cell? ⟨w.heap.size + 1, 3, none⟩ = some (.slice none 0 0) := by simp [World.cell?, hre]
  have z0 : w3.frozen? ⟨w.heap.size + 1, 0, none⟩ = false := by simp [World.frozen?, hre]
  have z1 : w3.frozen? ⟨w.heap.size + 1, 1, none⟩ = false := by simp [World.frozen?, hre]
  have z2 : w3.frozen? ⟨w.heap.size + 1, 2, none⟩ = false := by simp [World.frozen?, hre]
  have z3 : w3.frozen? ⟨w.heap.size + 1, 3, none⟩ = false := by simp [World.frozen?, hre]
  have HB3 := Lib.hid (next HBB.out b3)
  have HW := Lib.hid (sets4 (.slice none 0 0) (.int .i64 0) (.slice none 0 0) (.slice none 0 0) hre)
  have HT := Lib.hid (turn4 w3 (w.heap.size + 1) (.slice none 0 0) (.int .i64 0) (.slice none 0 0) (.slice none 0 0))
  clear hre b3
  go_wp2_with fail
  generalize (((w3.setCell ⟨w.heap.size + 1, 0, none⟩ (.slice none 0 0)).setCell ⟨w.heap.size + 1, 1, none⟩ (.int .i64 0)).setCell ⟨w.heap.size + 1, 2, none⟩ (.slice none 0 0)).setCell ⟨w.heap.size + 1, 3, none⟩ (.slice none 0 0) = W at HW HT ⊢
  have hW := HW.out
  have s0 : W.cell? ⟨w.heap.size + 1, 0, none⟩ = some (.slice none 0 0) := by simp [World.cell?, hW]
  have s1 : W.cell? ⟨w.heap.size + 1, 1, none⟩ = some (.int .i64 0) := by simp [World.cell?, hW]
  have s2 : W.cell? ⟨w.heap.size + 1, 2, none⟩ = some (.slice none 0 0) := by simp [World.cell?, hW]
  have s3 : W.cell? ⟨w.heap.size + 1, 3, none⟩ = some (.slice none 0 0) := by simp [World.cell?, hW]
  clear hW
  exact bodyPost_ret (v := .tuple #[noDevs, .int .i64 1]) (by simp [results, Tryz.results11, go_sem, s0, s1, s2, s3, noDevs]) rfl ⟨rfl, HB3.out.trans (HT.out.below (fun k hk => by omega) HB3.out.size)⟩
theorem right8_no (w : World) : Calls Tryz.prog 20 #[noDevs] w fun e w' => e = .returned (.bool false) ∧ Below w.heap.size w w' := by
  have hb := boxed w (.cells #[.slice none 0 0, .int .i64 0, .slice none 0 0, .slice none 0 0] 31)
  have hm : ∀ w : World, Meas w (.agg #[.slice none 0 0, .int .i64 0]) [] 0 := fun w => ⟨none, 0, 0, rfl, ⟨Nat.zero_le _, rfl, fun i hi => absurd hi (Nat.not_lt_zero _)⟩, by decide, by decide⟩
  have HD := Lib.hid (fun w => devs_any [] 0 _ w (hm w) 0 rfl)
  have HB := Lib.hid hb
  clear hm hb
  unfold noDevs
  go_enter Tryz.func20, Tryz.ntmps20
  go_wp2_with fail
  refine (HD.out _).mono ?_
  rintro e w1 ⟨rfl, b1⟩
  go_wp2
  go_ret
  exact ⟨rfl, next HB.out b1⟩
def hereD (ds : Nat → Dv) (aw : Nat → Bool) (n : Nat) (d : Int) : Bool := decide (0 ≤ d) && decide (d < n) && hereB ds aw d.toNat
section
variable {X : Nat → Prop} {B : Nat} {w : World} {x : Px} {l : List (Int × Int)} {ds : Nat → Dv} {aw : Nat → Bool} {K : Nat} {P : World → Prop}
end
end Go.Proofs.YtlhnmcopioeboaaGreat

/- polderlaw08.Devices: a measure's devices, some of them away, some lost. -/
namespace Go.Proofs.YtlhnmcopioeboaaGreat
set_option maxRecDepth 100000
open Go.RowKit Go.Maps M

/-- A slice of bools that came in. -/
def Bl (w : World) (a : Option Addr) (n : Nat) (f : Nat → Bool) : Prop := n ≤ maxLen ∧ ∀ i, i < n → ∃ g o, a = some ⟨g, o, none⟩ ∧ g < w.heap.size ∧ w.cell? ⟨g, o + i, none⟩ = some (.bool (f i))
theorem Bl.below {w w' : World} {a : Option Addr} {n : Nat} {f : Nat → Bool} (h : Bl w a n f) (hb : Below w.heap.size w w') : Bl w' a n f := ⟨h.1, fun i hi => by
  obtain ⟨g, o, ha, hg, hc⟩ := h.2 i hi
  exact ⟨g, o, ha, Nat.lt_of_lt_of_le hg hb.size, (hb.cell (p := ⟨g, o + i, none⟩) hg).trans hc⟩⟩
theorem Bl.nil (w : World) (f : Nat → Bool) : Bl w none 0 f := ⟨Nat.zero_le _, fun _ hi => absurd hi (Nat.not_lt_zero _)⟩
/-- What a list of marks says of a device. -/
def saysB (n : Nat) (f : Nat → Bool) (i : Nat) : Bool := decide (i < n) && f i
/-- An own slice of bools. -/
def OwnBl (B : Nat) (w : World) (v : Value) (l : List Bool) : Prop := w.ownsRow B 4 1 v l.length (l.map Value.bool)
theorem OwnBl.same {B : Nat} {w w' : World} {v : Value} {l : List Bool} (h : OwnBl B w v l) (hb : ∀ k, v.ownBlock = some k → w'.heap[k]? = w.heap[k]?) : OwnBl B w' v l := by
  refine ⟨h.1, ?_⟩
  rcases h.2 with hn | ⟨g, cap, cur, rfl, hB, hg, rest⟩
  · exact .inl hn
  · exact .inr ⟨g, cap, cur, rfl, hB, (hb g rfl).trans hg, rest⟩
theorem OwnBl.below {B : Nat} {w w' : World} {v : Value} {l : List Bool} (h : OwnBl B w v l) (hb : Below w.heap.size w w') : OwnBl B w' v l := h.same fun k hk => hb.block k (World.ownsRow.lt h k hk).2
theorem info_bool : ∃ i, Tryz.prog.info? 4 = some i ∧ i.zero = some (.bool false) ∧ i.size = 1 ∧ i.bytes = 1 := info_parts (by kernel_rfl)
theorem wpList_append_bool {ops : Array Oper} {rest : List Oper} {o : Oper} {a : Act} {Q : Exit → Act → World → Prop} (w : World) (hgd : o.guard = none) (s x : Operand)
    (ho : o.op = .call { callee := .builtin .append, args := #[s, x], argTypes := #[27, 27] }) (B : Nat) (v : Value) (l : List Bool) (b : Bool) (g c' : Nat) (hs : a.eval s = v) (hx : a.eval x = .slice (some ⟨g, 0, none⟩) 1 c')
    (hv : OwnBl B w v l) (hc : w.cell? ⟨g, 0, none⟩ = some (.bool b)) (hB : B ≤ w.heap.size) (hN : l.length ≤ 100000)
    (h : ∀ v' w', OwnBl B w' v' (l ++ [b]) → w.grownBy w' v.ownBlock → (v'.ownBlock = v.ownBlock ∨ v'.ownBlock = some w.heap.size) → wpList Tryz.prog ops Q rest (a.put o.dst v') w') : wpList Tryz.prog ops Q (o :: rest) a w := by
  obtain ⟨i, hi, hz, hsz, hb⟩ := info_bool
  refine wpList_append_own_at w hgd s x _ ho B 4 i _ 1 1 Tryz.underlying27 hi hz hsz hb rfl (by decide) v l.length (l.map Value.bool) hs hv ⟨g, 0, none⟩ 1 c' [.bool b] hx rfl (fun j u hj => ?_) (fun u hu => ?_) (by unfold maxLen; omega) (by omega) hB fun v' w' h1 h2 _ h4 => ?_
  · have hlt : j < 1 := (List.getElem?_eq_some_iff.1 hj).1
    obtain rfl : j = 0 := by omega
    rw [Go.WideShapes.add_plain, ← hj]
    exact hc
  · rw [List.mem_singleton.1 hu]; rfl
  · refine h v' w' ?_ h2 h4
    unfold OwnBl
    rw [List.length_append, List.map_append]
    exact h1

section
variable (na nl : Nat) (fa fl : Nat → Bool)
def lostD (D : Dv) : Dv := { D.bare with lost := true }
def dsTo (D : Dv) (j i : Nat) : Dv := if i < j ∧ saysB nl fl i = true then lostD D else D
def awTo (j i : Nat) : Bool := decide (i < j) && saysB na fa i
def hereTo (j : Nat) : List Bool := (List.range j).map fun i => !saysB na fa i && !saysB nl fl i
theorem dsTo_zero (D : Dv) : dsTo nl fl D 0 = fun _ => D := by funext i; simp [dsTo]
theorem awTo_zero : awTo na fa 0 = fun _ => false := by funext i; simp [awTo]
theorem dsTo_yes (D : Dv) (j : Nat) (h : saysB nl fl j = true) : upd (dsTo nl fl D j) j (lostD D) = dsTo nl fl D (j + 1) := by
  funext i
  unfold upd dsTo
  by_cases e : i = j
  · subst e; simp [h]
  · rw [if_neg e]
    by_cases h2 : i < j
    · simp [h2, show i < j + 1 by omega]
    · simp [h2, show ¬ i < j + 1 by omega]
theorem dsTo_no (D : Dv) (j : Nat) (h : saysB nl fl j = false) : dsTo nl fl D j = dsTo nl fl D (j + 1) := by
  funext i
  unfold dsTo
  by_cases e : i = j
  · subst e; simp [h]
  · by_cases h2 : i < j
    · simp [h2, show i < j + 1 by omega]
    · simp [h2, show ¬ i < j + 1 by omega]
theorem dsTo_at (D : Dv) (j : Nat) : dsTo nl fl D j j = D := by simp [dsTo]
theorem awTo_set (j : Nat) : upd (awTo na fa j) j (saysB na fa j) = awTo na fa (j + 1) := by
  funext i
  unfold upd awTo
  by_cases e : i = j
  · subst e; simp
  · rw [if_neg e]
    by_cases h2 : i < j
    · simp [h2, show i < j + 1 by omega]
    · simp [h2, show ¬ i < j + 1 by omega]
theorem awTo_at (j : Nat) : awTo na fa (j + 1) j = saysB na fa j := by simp [awTo]
theorem hereTo_succ (j : Nat) : hereTo na nl fa fl (j + 1) = hereTo na nl fa fl j ++ [!saysB na fa j && !saysB nl fl j] := by simp [hereTo, List.range_succ]
theorem hereTo_len (j : Nat) : (hereTo na nl fa fl j).length = j := by simp [hereTo]
theorem hereB_to {D : Dv} (hD : D.lost = false) {n i : Nat} (hi : i < n) : hereB (dsTo nl fl D n) (awTo na fa n) i = (!saysB na fa i && !saysB nl fl i) := by
  unfold hereB dsTo awTo
  cases h : saysB nl fl i <;> simp [hi, hD, lostD]
end
/-- A new device of so many sectors. -/
def zeroDv (sc : Int) : Dv := (newDv sc.toNat).fresh 0

set_option maxHeartbeats 2000000 in
theorem devices_no (l : List (Int × Int)) (sc : Int) (v : Value) (w : World) (h : Meas w v l sc) (hno : 100 < l.length ∨ 200 < sc ∨ rightL l sc = false) (v1 v2 : Value) :
    Calls Tryz.prog 5 #[v, v1, v2] w fun e w' => e = .returned (.tuple #[noDevs, .slice none 0 0, .bool false]) ∧ Below w.heap.size w w' := by
  obtain ⟨a, gn, gc, rfl, hg, hs0, hs1⟩ := id h
  have hgn : l.length = gn := hg.2.1
  have hgm := hg.1
  unfold maxLen at hgm
  have b1 := boxed w (.cells #[.slice a gn gc, .int .i64 sc] 24)
  have b2 := boxed (w.alloc (.cells #[.slice a gn gc, .int .i64 sc] 24)) (.cells #[.slice none 0 0, .int .i64 0, .slice none 0 0, .slice none 0 0] 31)
  have bb := next b1 b2
  have c0 : ((w.alloc (.cells #[.slice a gn gc, .int .i64 sc] 24)).alloc (.cells #[.slice none 0 0, .int .i64 0, .slice none 0 0, .slice none 0 0] 31)).cell? ⟨w.heap.size, 0, none⟩ = some (.slice a gn gc) := by rw [b2.cell (p := ⟨w.heap.size, 0, none⟩) (by simp)]; simp
  have c1 : ((w.alloc (.cells #[.slice a gn gc, .int .i64 sc] 24)).alloc (.cells #[.slice none 0 0, .int .i64 0, .slice none 0 0, .slice none 0 0] 31)).cell? ⟨w.heap.size, 1, none⟩ = some (.int .i64 sc) := by rw [b2.cell (p := ⟨w.heap.size, 1, none⟩) (by simp)]; simp
  have hres : ((w.alloc (.cells #[.slice a gn gc, .int .i64 sc] 24)).alloc (.cells #[.slice none 0 0, .int .i64 0, .slice none 0 0, .slice none 0 0] 31)).heap[w.heap.size + 1]? = some (.cells #[.slice none 0 0, .int .i64 0, .slice none 0 0, .slice none 0 0] 31) := by
    have := heap_alloc_new (w.alloc (.cells #[.slice a gn gc, .int .i64 sc] 24)) (.cells #[.slice none 0 0, .int .i64 0, .slice none 0 0, .slice none 0 0] 31)
    simpa using this
  have hz2 : ((w.alloc (.cells #[.slice a gn gc, .int .i64 sc] 24)).alloc (.cells #[.slice none 0 0, .int .i64 0, .slice none 0 0, .slice none 0 0] 31)).heap.size = w.heap.size + 2 := by simp
  generalize hw2 : (w.alloc (.cells #[.slice a gn gc, .int .i64 sc] 24)).alloc (.cells #[.slice none 0 0, .int .i64 0, .slice none 0 0, .slice none 0 0] 31) = w2 at b2 bb c0 c1 hres hz2
  have HW2 := Lib.hid hw2
  have HM := Lib.hid (h.below bb)
  have HBB := Lib.hid bb
  have HRES := Lib.hid hres
  have HEND : Hid (∀ V, Below w2.heap.size w2 V → V.heap[w.heap.size + 1]? = some (.cells #[.slice none 0 0, .int .i64 0, .slice none 0 0, .slice none 0 0] 31)) := Lib.hid fun V hb => (hb.block _ (by omega)).trans HRES.out
  clear h hg b1 b2 bb hw2 hres
  by_cases hbig : 100 < l.length ∨ 200 < sc
  · have hre := HEND.out w2 (Below.refl _ _)
    have r0 : w2.cell? ⟨w.heap.size + 1, 0, none⟩ = some (.slice none 0 0) := by simp [World.cell?, hre]
    have r1 : w2.cell? ⟨w.heap.size + 1, 1, none⟩ = some (.int .i64 0) := by simp [World.cell?, hre]
    have r2 : w2.cell? ⟨w.heap.size + 1, 2, none⟩ = some (.slice none 0 0) := by simp [World.cell?, hre]
    have r3 : w2.cell? ⟨w.heap.size + 1, 3, none⟩ = some (.slice none 0 0) := by simp [World.cell?, hre]
    have z0 : w2.frozen? ⟨w.heap.size + 1, 0, none⟩ = false := by simp [World.frozen?, hre]
    have z1 : w2.frozen? ⟨w.heap.size + 1, 1, none⟩ = false := by simp [World.frozen?, hre]
    have z2 : w2.frozen? ⟨w.heap.size + 1, 2, none⟩ = false := by simp [World.frozen?, hre]
    have z3 : w2.frozen? ⟨w.heap.size + 1, 3, none⟩ = false := by simp [World.frozen?, hre]
    have dd : (decide (100 < (gn : Int)) || decide (200 < sc)) = true := by
      rw [Bool.or_eq_true, decide_eq_true_iff, decide_eq_true_iff]
      omega
    clear hre
    by_cases hb1 : 100 < gn
    · have d1 : decide (100 < (gn : Int)) = true := by rw [decide_eq_true_iff]; omega
      go_enter Tryz.func5, Tryz.ntmps5
      go_wp2_with (first | (rw [HW2.out]; fail))
      rw [HW2.out]
      go_wp2_with fail
      exact bodyPost_ret (v := .tuple #[noDevs, .slice none 0 0, .bool false]) (by simp [results, Tryz.results5, go_sem, r0, r1, r2, r3, noDevs]) rfl ⟨rfl, HBB.out⟩
    · have d1 : decide (100 < (gn : Int)) = false := by rw [decide_eq_false_iff_not]; omega
      have d2 : decide (200 < sc) = true := by rw [decide_eq_true_iff]; omega
      go_enter Tryz.func5, Tryz.ntmps5
      go_wp2_with (first | (rw [HW2.out]; fail))
      rw [HW2.out]
      go_wp2_with fail
      exact bodyPost_ret (v := .tuple #[noDevs, .slice none 0 0, .bool false]) (by simp [results, Tryz.results5, go_sem, r0, r1, r2, r3, noDevs]) rfl ⟨rfl, HBB.out⟩
  · have hr : rightL l sc = false := by
      rcases hno with h | h | h
      · exact absurd (.inl h) hbig
      · exact absurd (.inr h) hbig
      · exact h
    have d1 : decide (100 < (gn : Int)) = false := by rw [decide_eq_false_iff_not]; omega
    have d2 : decide (200 < sc) = false := by rw [decide_eq_false_iff_not]; omega
    have HNE := Lib.hid (new8_bad l sc _ w2 HM.out hr 0)
    unfold noDevs at HNE
    clear hr hno hbig
    go_enter Tryz.func5, Tryz.ntmps5
    go_wp2_with (first | (rw [HW2.out]; fail))
    rw [HW2.out]
    go_wp2_with fail
    refine HNE.out.mono ?_
    rintro e w3 ⟨rfl, b3⟩
    have hb4 := boxed w3 (.cells #[.slice none 0 0, .int .i64 0, .slice none 0 0, .slice none 0 0] 31)
    have b4 := next b3 hb4
    have hre := HEND.out _ b4
    have r0 : (w3.alloc (.cells #[.slice none 0 0, .int .i64 0, .slice none 0 0, .slice none 0 0] 31)).cell? ⟨w.heap.size + 1, 0, none⟩ = some (.slice none 0 0) := by unfold World.cell?; rw [hre]; rfl
    have r1 : (w3.alloc (.cells #[.slice none 0 0, .int .i64 0, .slice none 0 0, .slice none 0 0] 31)).cell? ⟨w.heap.size + 1, 1, none⟩ = some (.int .i64 0) := by unfold World.cell?; rw [hre]; rfl
    have r2 : (w3.alloc (.cells #[.slice none 0 0, .int .i64 0, .slice none 0 0, .slice none 0 0] 31)).cell? ⟨w.heap.size + 1, 2, none⟩ = some (.slice none 0 0) := by unfold World.cell?; rw [hre]; rfl
    have r3 : (w3.alloc (.cells #[.slice none 0 0, .int .i64 0, .slice none 0 0, .slice none 0 0] 31)).cell? ⟨w.heap.size + 1, 3, none⟩ = some (.slice none 0 0) := by unfold World.cell?; rw [hre]; rfl
    have z0 : (w3.alloc (.cells #[.slice none 0 0, .int .i64 0, .slice none 0 0, .slice none 0 0] 31)).frozen? ⟨w.heap.size + 1, 0, none⟩ = false := by unfold World.frozen?; rw [hre]; rfl
    have z1 : (w3.alloc (.cells #[.slice none 0 0, .int .i64 0, .slice none 0 0, .slice none 0 0] 31)).frozen? ⟨w.heap.size + 1, 1, none⟩ = false := by unfold World.frozen?; rw [hre]; rfl
    have z2 : (w3.alloc (.cells #[.slice none 0 0, .int .i64 0, .slice none 0 0, .slice none 0 0] 31)).frozen? ⟨w.heap.size + 1, 2, none⟩ = false := by unfold World.frozen?; rw [hre]; rfl
    have z3 : (w3.alloc (.cells #[.slice none 0 0, .int .i64 0, .slice none 0 0, .slice none 0 0] 31)).frozen? ⟨w.heap.size + 1, 3, none⟩ = false := by unfold World.frozen?; rw [hre]; rfl
    have HB4 := Lib.hid b4
    have HRE := Lib.hid hre
    clear b3 hb4 b4 hre c0 c1
    go_wp2_with fail
    exact bodyPost_ret (v := .tuple #[noDevs, .slice none 0 0, .bool false]) (by simp [results, Tryz.results5, go_sem, r0, r1, r2, r3, noDevs]) rfl ⟨rfl, ((((HBB.out.trans (HB4.out.mono HBB.out.size)).setCell (p := ⟨w.heap.size + 1, 0, none⟩) (Nat.le_succ _) _).setCell (p := ⟨w.heap.size + 1, 1, none⟩) (Nat.le_succ _) _).setCell (p := ⟨w.heap.size + 1, 2, none⟩) (Nat.le_succ _) _).setCell (p := ⟨w.heap.size + 1, 3, none⟩) (Nat.le_succ _) _⟩
set_option maxHeartbeats 4000000 in
theorem devices_ok (l : List (Int × Int)) (sc : Int) (v : Value) (w : World) (h : Meas w v l sc) (hl : l.length ≤ 100) (hs : sc ≤ 200) (hr : RightM l sc) (aa al : Option Addr) (na ca nl cl : Nat) (fa fl : Nat → Bool) (hA : Bl w aa na fa) (hL : Bl w al nl fl) :
    Calls Tryz.prog 5 #[v, .slice aa na ca, .slice al nl cl] w fun e w' => ∃ (x : Px) (hv : Value), e = .returned (.tuple #[x.val, hv, .bool true]) ∧ x.sc = sc ∧
      St w.heap.size w' x l (dsTo nl fl (zeroDv sc) x.n) (awTo na fa x.n) 0 (fun w' => OwnBl w.heap.size w' hv (hereTo na nl fa fl x.n)) ∧ Below w.heap.size w w' := by
  obtain ⟨a, gn, gc, rfl, hg, hs0, hs1⟩ := id h
  have hgn : l.length = gn := hg.2.1
  have b1 := boxed w (.cells #[.slice a gn gc, .int .i64 sc] 24)
  have b2 := boxed (w.alloc (.cells #[.slice a gn gc, .int .i64 sc] 24)) (.cells #[.slice none 0 0, .int .i64 0, .slice none 0 0, .slice none 0 0] 31)
  have bb := next b1 b2
  have c0 : ((w.alloc (.cells #[.slice a gn gc, .int .i64 sc] 24)).alloc (.cells #[.slice none 0 0, .int .i64 0, .slice none 0 0, .slice none 0 0] 31)).cell? ⟨w.heap.size, 0, none⟩ = some (.slice a gn gc) := by rw [b2.cell (p := ⟨w.heap.size, 0, none⟩) (by simp)]; simp
  have c1 : ((w.alloc (.cells #[.slice a gn gc, .int .i64 sc] 24)).alloc (.cells #[.slice none 0 0, .int .i64 0, .slice none 0 0, .slice none 0 0] 31)).cell? ⟨w.heap.size, 1, none⟩ = some (.int .i64 sc) := by rw [b2.cell (p := ⟨w.heap.size, 1, none⟩) (by simp)]; simp
  have hres : ((w.alloc (.cells #[.slice a gn gc, .int .i64 sc] 24)).alloc (.cells #[.slice none 0 0, .int .i64 0, .slice none 0 0, .slice none 0 0] 31)).heap[w.heap.size + 1]? = some (.cells #[.slice none 0 0, .int .i64 0, .slice none 0 0, .slice none 0 0] 31) := by
    have := heap_alloc_new (w.alloc (.cells #[.slice a gn gc, .int .i64 sc] 24)) (.cells #[.slice none 0 0, .int .i64 0, .slice none 0 0, .slice none 0 0] 31)
    simpa using this
  have hz2 : ((w.alloc (.cells #[.slice a gn gc, .int .i64 sc] 24)).alloc (.cells #[.slice none 0 0, .int .i64 0, .slice none 0 0, .slice none 0 0] 31)).heap.size = w.heap.size + 2 := by simp
  generalize hw2 : (w.alloc (.cells #[.slice a gn gc, .int .i64 sc] 24)).alloc (.cells #[.slice none 0 0, .int .i64 0, .slice none 0 0, .slice none 0 0] 31) = w2 at b2 bb c0 c1 hres hz2
  have HW2 := Lib.hid hw2
  have HNE := Lib.hid (new8_ok l sc _ w2 (h.below bb) hr 0)
  have HAA := Lib.hid (hA.below bb)
  have HLL := Lib.hid (hL.below bb)
  have HBB := Lib.hid bb
  have HRES := Lib.hid hres
  have hna := hA.1
  have hnl := hL.1
  unfold maxLen at hna hnl
  clear h hg b1 b2 bb hr hw2 hres hA hL
  go_enter Tryz.func5, Tryz.ntmps5
  go_wp2_with (first | (rw [HW2.out]; fail))
  rw [HW2.out]
  go_wp2_with fail
  refine HNE.out.mono ?_
  rintro e w3 ⟨x, rfl, rfl, h3, b3⟩
  have hbx := boxed w3 (.cells #[.slice x.ga x.gn x.gc, .int .i64 x.sc, .slice (some ⟨x.lb, 0, none⟩) x.n x.n, .slice (some ⟨x.ab, 0, none⟩) x.n x.n] 31)
  have HS4 := Lib.hid (h3.add hbx (BoxX.new w3 x _ (Nat.le_refl _) 31))
  have HB4 := Lib.hid (next b3 hbx)
  obtain ⟨_, h32⟩ := h3.right.1.devs h3.right.2
  obtain ⟨_, f0, f1, f2, f3⟩ := HS4.out.out
  clear h3 b3 hbx c0 c1
  unfold Px.val
  have hDG : DGood x.sc 0 (zeroDv x.sc) := by
    have h24 := HS4.out.right.1.s0
    refine ⟨rfl, ?_, Nat.zero_le _⟩
    show ((List.replicate (newDv x.sc.toNat).med.length (fullS 0)).length : Int) = x.sc
    rw [List.length_replicate]
    show ((List.replicate x.sc.toNat (fullS 0)).length : Int) = x.sc
    rw [List.length_replicate]
    omega
  have HDG := Lib.hid hDG
  have HNR := Lib.hid HS4.out.right
  have HRX : Hid (∀ V, Below w2.heap.size w2 V → V.heap[w.heap.size + 1]? = some (.cells #[.slice none 0 0, .int .i64 0, .slice none 0 0, .slice none 0 0] 31)) := Lib.hid fun V hb => (hb.block _ (by omega)).trans HRES.out
  clear hDG HRES
  go_wp2_with fail
  generalize w3.alloc (.cells #[.slice x.ga x.gn x.gc, .int .i64 x.sc, .slice (some ⟨x.lb, 0, none⟩) x.n x.n, .slice (some ⟨x.ab, 0, none⟩) x.n x.n] 31) = w4 at *
  generalize w3.heap.size = bx at *
  clear f0 f1 f2 f3
  go_loopw [11, 12] (fun hv i wr => ∃ j : Nat, j ≤ x.n ∧ i = .int .i64 j ∧ OwnBl w2.heap.size wr hv (hereTo na nl fa fl j) ∧ StX (fun k => hv.ownBlock = some k) w2.heap.size wr x l (dsTo nl fl (zeroDv x.sc) j) (awTo na fa j) 0 (fun w' => True ∧ BoxX x bx w') ∧ Below w2.heap.size w2 wr) (fun _ i _ => x.n - (intOf i).toNat)
  case atStart =>
    refine ⟨0, Nat.zero_le _, rfl, World.ownsRow_nil _ _ _ _, ?_, HB4.out⟩
    rw [dsTo_zero, awTo_zero]
    exact HS4.out.sub (fun k hk => by simp [Value.ownBlock] at hk)
  case round =>
    obtain ⟨j, hj, rfl, ho, hst, hbw⟩ := hrel
    have HO := Lib.hid ho
    have HS := Lib.hid hst
    have HB := Lib.hid hbw
    clear ho hst hbw
    obtain ⟨_, x0, x1, x2, x3⟩ := HS.out.out
    by_cases hlt : j < x.n
    · have hawj := HS.out.away hlt
      have a0 := hawj.1
      have a1 := hawj.2
      clear hawj
      have HM := Lib.hid ((HS.out.below (Below.refl _ wr).drew).mark hlt (saysB na fa j))
      have q1 : (0 : Int) ≤ (j : Int) := by omega
      have q2 : (j : Int) < (x.n : Int) := by omega
      go_upto_region 10 with (fail)
      go_cut [12] (fun s12 wc => s12 = .int .i64 (j : Int) ∧ wc = wr.drew.setCell ⟨x.ab, j, none⟩ (.bool (saysB na fa j)))
      case first =>
        by_cases hja : j < na
        · obtain ⟨gA, oA, rfl, hgA, hcA⟩ := HAA.out.2 j hja
          have hcA' := (HB.out.cell (p := ⟨gA, oA + j, none⟩) hgA).trans hcA
          have HE : Hid (saysB na fa j = fa j) := Lib.hid (by simp [saysB, hja])
          have d1 : decide ((j : Int) < (na : Int)) = true := by simpa using hja
          have q3 : (j : Int) < (na : Int) := by omega
          clear hcA
          refine wp_region_still_tail 14 (by kernel_rfl) (by kernel_rfl) ?_
          simp only [List.take_succ_cons, List.take_zero, List.drop_succ_cons, List.drop_zero]
          repeat still_step
          refine wpStill_nil ?_
          go_wp2_with fail
          go_meet
          exact ⟨rfl, by rw [HE.out]; rfl⟩
        · have HE : Hid (saysB na fa j = false) := Lib.hid (by simp [saysB, hja])
          have d1 : decide ((j : Int) < (na : Int)) = false := by simpa using hja
          refine wp_region_still_tail 14 (by kernel_rfl) (by kernel_rfl) ?_
          simp only [List.take_succ_cons, List.take_zero, List.drop_succ_cons, List.drop_zero]
          repeat still_step
          refine wpStill_nil ?_
          go_wp2_with fail
          go_meet
          exact ⟨rfl, by rw [HE.out]; rfl⟩
      case rest =>
        obtain ⟨rfl, hwc⟩ := hcut
        have HM1 : Hid (StX (fun k => u11.ownBlock = some k) w2.heap.size wc x l (dsTo nl fl (zeroDv x.sc) j) (awTo na fa (j + 1)) 0 (fun w' => True ∧ BoxX x bx w')) := Lib.hid (by rw [hwc, ← awTo_set]; exact HM.out.1)
        have HB1 : Hid (Below w2.heap.size w2 wc) := Lib.hid (by rw [hwc]; exact HB.out.drew.trans HM.out.2.1)
        have HO1 : Hid (OwnBl w2.heap.size wc u11 (hereTo na nl fa fl j)) := Lib.hid (by rw [hwc]; exact (HO.out.below (Below.refl _ wr).drew).same fun k hk => HM.out.2.2 k hk)
        clear hwc x0 x1 x2 x3 a0 a1 HM HS HO HB
        obtain ⟨_, x0, x1, x2, x3⟩ := HM1.out.out
        have a0 := (HM1.out.away hlt).1
        rw [awTo_at] at a0
        obtain ⟨V, hV⟩ : ∃ V, saysB na fa j = V := ⟨_, rfl⟩
        have HV := Lib.hid hV
        rw [hV] at a0
        clear hV
        by_cases hjl : j < nl
        · obtain ⟨gL, oL, rfl, hgL, hcL⟩ := HLL.out.2 j hjl
          have hcL' := (HB1.out.cell (p := ⟨gL, oL + j, none⟩) hgL).trans hcL
          have d1 : decide ((j : Int) < (nl : Int)) = true := by simpa using hjl
          have q3 : (j : Int) < (nl : Int) := by omega
          cases hfl : fl j with
          | true =>
            have HLT : Hid (saysB nl fl j = true) := Lib.hid (by simp [saysB, hjl, hfl])
            rw [hfl] at hcL hcL'
            obtain ⟨b, f, cb, hd, hdid⟩ := HM1.out.did hlt
            rw [dsTo_at] at hd
            have HLO := Lib.hid (lose_any b (zeroDv x.sc) f wc hd)
            have HDID := Lib.hid hdid
            clear hd hdid hfl
            go_wp2_with fail
            refine HLO.out.mono ?_
            rintro e w5 ⟨rfl, hd5⟩
            obtain ⟨h5, b5, _, hX5⟩ := HDID.out _ w5 0 hd5 ⟨rfl, HDG.out.len, Nat.zero_le _⟩ (Nat.le_refl _)
            have HS5 : Hid (StX (fun k => u11.ownBlock = some k) w2.heap.size w5 x l (dsTo nl fl (zeroDv x.sc) (j + 1)) (awTo na fa (j + 1)) 0 (fun w' => True ∧ BoxX x bx w')) := Lib.hid (by rw [← dsTo_yes _ _ _ _ HLT.out]; exact h5)
            have HB5 := Lib.hid (HB1.out.trans b5)
            have HO5 := Lib.hid (HO1.out.same hX5)
            have hcL5 := (HB5.out.cell (p := ⟨gL, oL + j, none⟩) hgL).trans hcL
            clear h5 b5 hX5 hd5 hcL' hcL x0 x1 x2 x3 a0 HLO HDID HM1 HB1 HO1 cb
            obtain ⟨_, x0, x1, x2, x3⟩ := HS5.out.out
            have a0 := (HS5.out.away hlt).1
            rw [awTo_at, HV.out] at a0
            cases V with
            | true =>
              go_wp2_with (at_builtin; refine wpList_append_bool _ rfl _ _ rfl w2.heap.size u11 (hereTo na nl fa fl j) false _ _ rfl rfl (HO5.out.below (boxed _ _)) (by simp) (by simp; have := HB5.out.size; omega) (by rw [hereTo_len]; omega) ?_; intro v9 w9 hO9 hg9 hv9)
              have tX : Turn (fun k => u11.ownBlock = some k) (w5.alloc (.cells #[.bool false] 4)) w9 := grown_turn hg9 fun k hk => hk
              have HS9 : Hid (StX (fun k => v9.ownBlock = some k) w2.heap.size w9 x l (dsTo nl fl (zeroDv x.sc) (j + 1)) (awTo na fa (j + 1)) 0 (fun w' => True ∧ BoxX x bx w')) := Lib.hid ((HS5.out.below (boxed _ _)).turnX tX (fun k hk => by rcases hv9 with e | e; exact .inl (by rw [← e]; exact hk); exact .inr (by rw [e] at hk; cases hk; exact Nat.le_refl _)) (fun k hk => (World.ownsRow.lt hO9 k hk).2) (by simp; have := HB5.out.size; omega))
              have HO9 : Hid (OwnBl w2.heap.size w9 v9 (hereTo na nl fa fl (j + 1))) := Lib.hid (by rw [hereTo_succ, HV.out, HLT.out]; exact hO9)
              have HB9 : Hid (Below w2.heap.size w2 w9) := Lib.hid ((HB5.out.trans ((boxed _ _).mono HB5.out.size)).trans (tX.below (fun k hk => (World.ownsRow.lt HO5.out k hk).1) (by simp; have := HB5.out.size; omega)))
              clear hO9 hg9 hv9 tX
              go_wp2
              go_roundw
              case rel => exact ⟨j + 1, by omega, by go_num, HO9.out, HS9.out, HB9.out⟩
              case measure => simp [intOf]; omega
            | false =>
              go_wp2_with (at_builtin; refine wpList_append_bool _ rfl _ _ rfl w2.heap.size u11 (hereTo na nl fa fl j) false _ _ rfl rfl (HO5.out.below (boxed _ _)) (by simp) (by simp; have := HB5.out.size; omega) (by rw [hereTo_len]; omega) ?_; intro v9 w9 hO9 hg9 hv9)
              have tX : Turn (fun k => u11.ownBlock = some k) (w5.alloc (.cells #[.bool false] 4)) w9 := grown_turn hg9 fun k hk => hk
              have HS9 : Hid (StX (fun k => v9.ownBlock = some k) w2.heap.size w9 x l (dsTo nl fl (zeroDv x.sc) (j + 1)) (awTo na fa (j + 1)) 0 (fun w' => True ∧ BoxX x bx w')) := Lib.hid ((HS5.out.below (boxed _ _)).turnX tX (fun k hk => by rcases hv9 with e | e; exact .inl (by rw [← e]; exact hk); exact .inr (by rw [e] at hk; cases hk; exact Nat.le_refl _)) (fun k hk => (World.ownsRow.lt hO9 k hk).2) (by simp; have := HB5.out.size; omega))
              have HO9 : Hid (OwnBl w2.heap.size w9 v9 (hereTo na nl fa fl (j + 1))) := Lib.hid (by rw [hereTo_succ, HV.out, HLT.out]; exact hO9)
              have HB9 : Hid (Below w2.heap.size w2 w9) := Lib.hid ((HB5.out.trans ((boxed _ _).mono HB5.out.size)).trans (tX.below (fun k hk => (World.ownsRow.lt HO5.out k hk).1) (by simp; have := HB5.out.size; omega)))
              clear hO9 hg9 hv9 tX
              go_wp2
              go_roundw
              case rel => exact ⟨j + 1, by omega, by go_num, HO9.out, HS9.out, HB9.out⟩
              case measure => simp [intOf]; omega
          | false =>
            have HLF : Hid (saysB nl fl j = false) := Lib.hid (by simp [saysB, hfl])
            rw [hfl] at hcL hcL'
            have HS5 : Hid (StX (fun k => u11.ownBlock = some k) w2.heap.size wc x l (dsTo nl fl (zeroDv x.sc) (j + 1)) (awTo na fa (j + 1)) 0 (fun w' => True ∧ BoxX x bx w')) := Lib.hid (by rw [← dsTo_no _ _ _ _ HLF.out]; exact HM1.out)
            clear hcL hfl
            cases V with
            | true =>
              go_wp2_with (at_builtin; refine wpList_append_bool _ rfl _ _ rfl w2.heap.size u11 (hereTo na nl fa fl j) false _ _ rfl rfl (HO1.out.below (boxed _ _)) (by simp) (by simp; have := HB1.out.size; omega) (by rw [hereTo_len]; omega) ?_; intro v9 w9 hO9 hg9 hv9)
              have tX : Turn (fun k => u11.ownBlock = some k) (wc.alloc (.cells #[.bool false] 4)) w9 := grown_turn hg9 fun k hk => hk
              have HS9 : Hid (StX (fun k => v9.ownBlock = some k) w2.heap.size w9 x l (dsTo nl fl (zeroDv x.sc) (j + 1)) (awTo na fa (j + 1)) 0 (fun w' => True ∧ BoxX x bx w')) := Lib.hid ((HS5.out.below (boxed _ _)).turnX tX (fun k hk => by rcases hv9 with e | e; exact .inl (by rw [← e]; exact hk); exact .inr (by rw [e] at hk; cases hk; exact Nat.le_refl _)) (fun k hk => (World.ownsRow.lt hO9 k hk).2) (by simp; have := HB1.out.size; omega))
              have HO9 : Hid (OwnBl w2.heap.size w9 v9 (hereTo na nl fa fl (j + 1))) := Lib.hid (by rw [hereTo_succ, HV.out, HLF.out]; exact hO9)
              have HB9 : Hid (Below w2.heap.size w2 w9) := Lib.hid ((HB1.out.trans ((boxed _ _).mono HB1.out.size)).trans (tX.below (fun k hk => (World.ownsRow.lt HO1.out k hk).1) (by simp; have := HB1.out.size; omega)))
              clear hO9 hg9 hv9 tX
              go_wp2
              go_roundw
              case rel => exact ⟨j + 1, by omega, by go_num, HO9.out, HS9.out, HB9.out⟩
              case measure => simp [intOf]; omega
            | false =>
              go_wp2_with (at_builtin; refine wpList_append_bool _ rfl _ _ rfl w2.heap.size u11 (hereTo na nl fa fl j) true _ _ rfl rfl (HO1.out.below (boxed _ _)) (by simp) (by simp; have := HB1.out.size; omega) (by rw [hereTo_len]; omega) ?_; intro v9 w9 hO9 hg9 hv9)
              have tX : Turn (fun k => u11.ownBlock = some k) (wc.alloc (.cells #[.bool true] 4)) w9 := grown_turn hg9 fun k hk => hk
              have HS9 : Hid (StX (fun k => v9.ownBlock = some k) w2.heap.size w9 x l (dsTo nl fl (zeroDv x.sc) (j + 1)) (awTo na fa (j + 1)) 0 (fun w' => True ∧ BoxX x bx w')) := Lib.hid ((HS5.out.below (boxed _ _)).turnX tX (fun k hk => by rcases hv9 with e | e; exact .inl (by rw [← e]; exact hk); exact .inr (by rw [e] at hk; cases hk; exact Nat.le_refl _)) (fun k hk => (World.ownsRow.lt hO9 k hk).2) (by simp; have := HB1.out.size; omega))
              have HO9 : Hid (OwnBl w2.heap.size w9 v9 (hereTo na nl fa fl (j + 1))) := Lib.hid (by rw [hereTo_succ, HV.out, HLF.out]; exact hO9)
              have HB9 : Hid (Below w2.heap.size w2 w9) := Lib.hid ((HB1.out.trans ((boxed _ _).mono HB1.out.size)).trans (tX.below (fun k hk => (World.ownsRow.lt HO1.out k hk).1) (by simp; have := HB1.out.size; omega)))
              clear hO9 hg9 hv9 tX
              go_wp2
              go_roundw
              case rel => exact ⟨j + 1, by omega, by go_num, HO9.out, HS9.out, HB9.out⟩
              case measure => simp [intOf]; omega
        · have HLF : Hid (saysB nl fl j = false) := Lib.hid (by simp [saysB, hjl])
          have d1 : decide ((j : Int) < (nl : Int)) = false := by simpa using hjl
          have HS5 : Hid (StX (fun k => u11.ownBlock = some k) w2.heap.size wc x l (dsTo nl fl (zeroDv x.sc) (j + 1)) (awTo na fa (j + 1)) 0 (fun w' => True ∧ BoxX x bx w')) := Lib.hid (by rw [← dsTo_no _ _ _ _ HLF.out]; exact HM1.out)
          cases V with
          | true =>
            go_wp2_with (at_builtin; refine wpList_append_bool _ rfl _ _ rfl w2.heap.size u11 (hereTo na nl fa fl j) false _ _ rfl rfl (HO1.out.below (boxed _ _)) (by simp) (by simp; have := HB1.out.size; omega) (by rw [hereTo_len]; omega) ?_; intro v9 w9 hO9 hg9 hv9)
            have tX : Turn (fun k => u11.ownBlock = some k) (wc.alloc (.cells #[.bool false] 4)) w9 := grown_turn hg9 fun k hk => hk
            have HS9 : Hid (StX (fun k => v9.ownBlock = some k) w2.heap.size w9 x l (dsTo nl fl (zeroDv x.sc) (j + 1)) (awTo na fa (j + 1)) 0 (fun w' => True ∧ BoxX x bx w')) := Lib.hid ((HS5.out.below (boxed _ _)).turnX tX (fun k hk => by rcases hv9 with e | e; exact .inl (by rw [← e]; exact hk); exact .inr (by rw [e] at hk; cases hk; exact Nat.le_refl _)) (fun k hk => (World.ownsRow.lt hO9 k hk).2) (by simp; have := HB1.out.size; omega))
            have HO9 : Hid (OwnBl w2.heap.size w9 v9 (hereTo na nl fa fl (j + 1))) := Lib.hid (by rw [hereTo_succ, HV.out, HLF.out]; exact hO9)
            have HB9 : Hid (Below w2.heap.size w2 w9) := Lib.hid ((HB1.out.trans ((boxed _ _).mono HB1.out.size)).trans (tX.below (fun k hk => (World.ownsRow.lt HO1.out k hk).1) (by simp; have := HB1.out.size; omega)))
            clear hO9 hg9 hv9 tX
            go_wp2
            go_roundw
            case rel => exact ⟨j + 1, by omega, by go_num, HO9.out, HS9.out, HB9.out⟩
            case measure => simp [intOf]; omega
          | false =>
            go_wp2_with (at_builtin; refine wpList_append_bool _ rfl _ _ rfl w2.heap.size u11 (hereTo na nl fa fl j) true _ _ rfl rfl (HO1.out.below (boxed _ _)) (by simp) (by simp; have := HB1.out.size; omega) (by rw [hereTo_len]; omega) ?_; intro v9 w9 hO9 hg9 hv9)
            have tX : Turn (fun k => u11.ownBlock = some k) (wc.alloc (.cells #[.bool true] 4)) w9 := grown_turn hg9 fun k hk => hk
            have HS9 : Hid (StX (fun k => v9.ownBlock = some k) w2.heap.size w9 x l (dsTo nl fl (zeroDv x.sc) (j + 1)) (awTo na fa (j + 1)) 0 (fun w' => True ∧ BoxX x bx w')) := Lib.hid ((HS5.out.below (boxed _ _)).turnX tX (fun k hk => by rcases hv9 with e | e; exact .inl (by rw [← e]; exact hk); exact .inr (by rw [e] at hk; cases hk; exact Nat.le_refl _)) (fun k hk => (World.ownsRow.lt hO9 k hk).2) (by simp; have := HB1.out.size; omega))
            have HO9 : Hid (OwnBl w2.heap.size w9 v9 (hereTo na nl fa fl (j + 1))) := Lib.hid (by rw [hereTo_succ, HV.out, HLF.out]; exact hO9)
            have HB9 : Hid (Below w2.heap.size w2 w9) := Lib.hid ((HB1.out.trans ((boxed _ _).mono HB1.out.size)).trans (tX.below (fun k hk => (World.ownsRow.lt HO1.out k hk).1) (by simp; have := HB1.out.size; omega)))
            clear hO9 hg9 hv9 tX
            go_wp2
            go_roundw
            case rel => exact ⟨j + 1, by omega, by go_num, HO9.out, HS9.out, HB9.out⟩
            case measure => simp [intOf]; omega
    · obtain rfl : j = x.n := by omega
      have hre := HRX.out wr HB.out
      have r0 : wr.cell? ⟨w.heap.size + 1, 0, none⟩ = some (.slice none 0 0) := by simp [World.cell?, hre]
      have r1 : wr.cell? ⟨w.heap.size + 1, 1, none⟩ = some (.int .i64 0) := by simp [World.cell?, hre]
      have r2 : wr.cell? ⟨w.heap.size + 1, 2, none⟩ = some (.slice none 0 0) := by simp [World.cell?, hre]
      have r3 : wr.cell? ⟨w.heap.size + 1, 3, none⟩ = some (.slice none 0 0) := by simp [World.cell?, hre]
      have z0 : wr.frozen? ⟨w.heap.size + 1, 0, none⟩ = false := by simp [World.frozen?, hre]
      have z1 : wr.frozen? ⟨w.heap.size + 1, 1, none⟩ = false := by simp [World.frozen?, hre]
      have z2 : wr.frozen? ⟨w.heap.size + 1, 2, none⟩ = false := by simp [World.frozen?, hre]
      have z3 : wr.frozen? ⟨w.heap.size + 1, 3, none⟩ = false := by simp [World.frozen?, hre]
      have HW := Lib.hid (sets4 (.slice x.ga x.gn x.gc) (.int .i64 x.sc) (.slice (some ⟨x.lb, 0, none⟩) x.n x.n) (.slice (some ⟨x.ab, 0, none⟩) x.n x.n) hre)
      have HT := Lib.hid (turn4 wr (w.heap.size + 1) (.slice x.ga x.gn x.gc) (.int .i64 x.sc) (.slice (some ⟨x.lb, 0, none⟩) x.n x.n) (.slice (some ⟨x.ab, 0, none⟩) x.n x.n))
      clear hre
      go_wp2_with fail
      generalize (((wr.setCell ⟨w.heap.size + 1, 0, none⟩ (.slice x.ga x.gn x.gc)).setCell ⟨w.heap.size + 1, 1, none⟩ (.int .i64 x.sc)).setCell ⟨w.heap.size + 1, 2, none⟩ (.slice (some ⟨x.lb, 0, none⟩) x.n x.n)).setCell ⟨w.heap.size + 1, 3, none⟩ (.slice (some ⟨x.ab, 0, none⟩) x.n x.n) = W at HW HT ⊢
      have hW := HW.out
      have s0 : W.cell? ⟨w.heap.size + 1, 0, none⟩ = some (.slice x.ga x.gn x.gc) := by simp [World.cell?, hW]
      have s1 : W.cell? ⟨w.heap.size + 1, 1, none⟩ = some (.int .i64 x.sc) := by simp [World.cell?, hW]
      have s2 : W.cell? ⟨w.heap.size + 1, 2, none⟩ = some (.slice (some ⟨x.lb, 0, none⟩) x.n x.n) := by simp [World.cell?, hW]
      have s3 : W.cell? ⟨w.heap.size + 1, 3, none⟩ = some (.slice (some ⟨x.ab, 0, none⟩) x.n x.n) := by simp [World.cell?, hW]
      clear hW
      refine bodyPost_ret (v := .tuple #[.agg #[.slice x.ga x.gn x.gc, .int .i64 x.sc, .slice (some ⟨x.lb, 0, none⟩) x.n x.n, .slice (some ⟨x.ab, 0, none⟩) x.n x.n], u11, .bool true]) (by simp [results, Tryz.results5, go_sem, s0, s1, s2, s3]) rfl ⟨x, u11, rfl, rfl, ?_, ?_⟩
      · have hzs : wr.heap.size ≤ W.heap.size := HT.out.size
        have hS := HS.out.old (w' := W) (HT.out.mono fun k hk => by omega)
        have hO : OwnBl w.heap.size W u11 (hereTo na nl fa fl x.n) := by
          have h1 : OwnBl w2.heap.size W u11 (hereTo na nl fa fl x.n) := HO.out.same fun k hk => HT.out.block k (World.ownsRow.lt HO.out k hk).2 fun e => by have := (World.ownsRow.lt HO.out k hk).1; omega
          refine ⟨h1.1, ?_⟩
          rcases h1.2 with hn | ⟨g, cap, cur, e, hB, rest⟩
          · exact .inl hn
          · exact .inr ⟨g, cap, cur, e, by omega, rest⟩
        have hR := hS.release (Q := fun w' => OwnBl w.heap.size w' u11 (hereTo na nl fa fl x.n)) fun w' _ hk => hO.same fun k hb => hk k hb
        exact (hR.mono fun w' h => h.2).lower (by omega)
      · exact HBB.out.trans (((HB.out.mono (by omega)).trans (HT.out.below (B := w.heap.size) (fun k hk => by omega) (by have := HB.out.size; omega))))
end Go.Proofs.YtlhnmcopioeboaaGreat

/- polderlaw08.awake. -/
namespace Go.Proofs.YtlhnmcopioeboaaGreat
set_option maxRecDepth 100000
open Go.RowKit Go.Maps M

theorem ex8_right : RightM [(0, 2)] 24 := rightM_iff.1 (by decide)
theorem ex8_devs : devsL [(0, 2)] 24 = 2 := by decide
theorem ex8_blk : Blk [(0, 2)] 24 0 0 1 := by
  obtain ⟨k, t, z, h1, h2, h3, h⟩ := mayL_iff.1 (show mayL [(0, 2)] 24 0 0 1 = true by decide)
  have e1 : k = 0 := by omega
  have e2 : t = 0 := by omega
  have e3 : z = 1 := by omega
  subst e1 e2 e3
  exact h
theorem ex8_cols : colsOf [(0, 2)] 0 0 1 = [⟨0, 16, false, 0⟩, ⟨1, 16, false, 0⟩] := by rfl
theorem ex8_fail (D : Dv) (hD : D.lost = false) : failN (fun _ => D) (upd (fun _ => false) 1 true) (colsOf [(0, 2)] 0 0 1) = 1 := by
  rw [ex8_cols]
  have h0 : hereB (fun _ => D) (upd (fun _ => false) 1 true) 0 = true := by simp [hereB, upd, hD]
  have h1 : hereB (fun _ => D) (upd (fun _ => false) 1 true) 1 = false := by simp [hereB, upd]
  have d0 : devN [⟨0, 16, false, 0⟩, ⟨1, 16, false, 0⟩] 0 = 0 := by decide
  have d1 : devN [⟨0, 16, false, 0⟩, ⟨1, 16, false, 0⟩] 1 = 1 := by decide
  show (faTo _ _ 2).length = 1
  rw [faTo, faTo, faTo, d0, d1, h0, h1]
  rfl

set_option maxHeartbeats 4000000 in
theorem awake8 (w : World) : Calls Tryz.prog 4 #[] w fun e w' => e = .returned (.bool true) ∧ Below w.heap.size w w' := by
  have hM : Meas (w.alloc (.cells #[.int .i64 0, .int .i64 2] 52)) (.agg #[.slice (some ⟨w.heap.size, 0, none⟩) 1 1, .int .i64 24]) [(0, 2)] 24 := by
    refine ⟨_, _, _, rfl, ⟨by decide, rfl, fun i hi => ?_⟩, by omega, by omega⟩
    obtain rfl : i = 0 := by simpa using hi
    exact ⟨_, _, rfl, ⟨by simp, by simp, by simp, by simp, by simp, by simp, by simp⟩⟩
  have HN := Lib.hid (new8_ok [(0, 2)] 24 _ _ hM ex8_right 0)
  have HB0 := Lib.hid (boxed w (.cells #[.int .i64 0, .int .i64 2] 52))
  clear hM
  go_enter Tryz.func4, Tryz.ntmps4
  go_wp2_with fail
  refine HN.out.mono ?_
  rintro e w3 ⟨x, rfl, hsc, h3, b3⟩
  have hxn : x.n = 2 := by
    have := h3.right.2
    rw [hsc, ex8_devs] at this
    omega
  have HSC := Lib.hid hsc
  have hbx := boxed w3 (.cells #[.slice x.ga x.gn x.gc, .int .i64 x.sc, .slice (some ⟨x.lb, 0, none⟩) x.n x.n, .slice (some ⟨x.ab, 0, none⟩) x.n x.n] 31)
  have HS4 := Lib.hid (h3.add hbx (BoxX.new w3 x _ (Nat.le_refl _) 31))
  have HB4 := Lib.hid (next (next HB0.out b3) hbx)
  obtain ⟨_, f0, f1, f2, f3⟩ := HS4.out.out
  have ha := HS4.out.away (i := 1) (by omega)
  have a0 := ha.1
  have a1 := ha.2
  have HM := Lib.hid (HS4.out.mark (i := 1) (by omega) true)
  have hne : ((x.n : Int) == 2) = true := by rw [hxn]; rfl
  have hnn : ((x.n : Int) != 2) = false := by rw [hxn]; rfl
  have h1n : (1 : Int) < (x.n : Int) := by rw [hxn]; decide
  have h1n' : 1 < x.n := by omega
  have HXN := Lib.hid hxn
  clear h3 b3 hbx ha HB0 hsc hxn
  unfold Px.val
  have hD : ((newDv (Int.toNat 24)).fresh 0).lost = false := rfl
  have HF := Lib.hid (ex8_fail _ hD)
  clear hD
  go_wp2_with fail
  have HB5 := Lib.hid ((HB4.out.trans (HM.out.2.1.mono (by simp))))
  clear f0 f1 f2 f3 a0 a1 HS4 HB4
  generalize (w3.alloc (.cells #[.slice x.ga x.gn x.gc, .int .i64 x.sc, .slice (some ⟨x.lb, 0, none⟩) x.n x.n, .slice (some ⟨x.ab, 0, none⟩) x.n x.n] 31)).setCell ⟨x.ab, 1, none⟩ (.bool true) = w5 at *
  have HS5 := Lib.hid HM.out.1
  clear HM
  have hBl : Blk [(0, 2)] x.sc 0 0 1 := by rw [HSC.out]; exact ex8_blk
  have b5 : Below w5.heap.size w5 w5.drew := (Below.refl _ w5).drew
  have hmk : ∀ V, (Instr.makeSlice 53 (.int .i64 64) (.int .i64 64)).run Tryz.prog V = .ok (.slice (some ⟨V.heap.size, 0, none⟩) 64 64) (zerosW V 64) := fun V => make_zeros V 64 (by decide)
  have hcv : ∀ V : World, (convert 53 9 (.slice (some ⟨V.heap.size, 0, none⟩) 64 64)).run Tryz.prog (zerosW V 64) = .ok (.string (zeroB 64)) (zerosW V 64) := fun V => conv_zeros V 64
  have hcv5 : (convert 53 9 (.slice (some ⟨w5.heap.size, 0, none⟩) 64 64)).run Tryz.prog (zerosW w5.drew 64) = .ok (.string (zeroB 64)) (zerosW w5.drew 64) := hcv w5.drew
  clear hcv
  have b6 : Below w5.heap.size w5 (zerosW w5.drew 64) := next b5 (zerosW_below _ 64)
  have hs : (zeroB 64).size = 1 * 64 := by rw [zeroB_size]
  have HW := Lib.hid (write8_ok (HS5.out.below b6) 0 0 1 hBl (zeroB 64) (by omega) hs (hBl.puts hs HS5.out.right.2) (by omega))
  rw [HF.out] at HW
  have he : errN (([(0, 2)] : List (Int × Int))[0]'hBl.hk) 1 = 0 := by rfl
  rw [he] at HW
  unfold Px.val at HW
  generalize zeroB 64 = Z at *
  obtain ⟨_, x0, x1, x2, x3⟩ := HS5.out.out
  obtain ⟨_, y0, y1, y2, y3⟩ := (HS5.out.below b6).out
  generalize w3.heap.size = bx at *
  go_region_with (first | (go_at_call 6; refine HW.out.mono ?_; rintro e w7 ⟨rfl, h7, b7⟩))
  all_goals
    go_wp2
    go_ret
    exact ⟨rfl, HB5.out.trans ((b6.mono HB5.out.size).trans (b7.mono (by simp)))⟩
end Go.Proofs.YtlhnmcopioeboaaGreat

/- What devices read as behind writing, flushing and a crash (no program is named here). -/
namespace Go.Proofs.YtlhnmcopioeboaaGreat
set_option maxRecDepth 100000
open Go.RowKit Go.Maps M

theorem put_now (S : Dv) (a : Nat) (x : Sec) (b : Nat) : (S.put a x).now b = if b = a then x else S.now b := by
  unfold Dv.now Dv.put
  by_cases e : b = a
  · subst e; simp
  · simp [e]
theorem put_med (S : Dv) (a : Nat) (x : Sec) : (S.put a x).med = S.med ∧ (S.put a x).lost = S.lost := ⟨rfl, rfl⟩
/-- What a sector reads as, behind a column's putting. -/
theorem putD_now (ds : Nat → Dv) (aw : Nat → Bool) (d a : Nat) (s : ByteArray) (d' a' : Nat) : (putD ds aw d a s d').now a' = if hereB ds aw d = true ∧ d' = d ∧ a' = a then s.data.toList else (ds d').now a' := by
  unfold putD
  by_cases h : hereB ds aw d = true
  · rw [if_pos h]
    unfold upd
    by_cases e : d' = d
    · subst e
      rw [if_pos rfl, put_now]
      by_cases e2 : a' = a
      · simp [h, e2]
      · simp [e2]
    · rw [if_neg e]; simp [e]
  · rw [if_neg h]; simp [h]
/-- No two of the columns are the same sector. -/
def ApartN (L : List C) : Prop := ∀ i j, i < L.length → j < L.length → devN L i = devN L j → atN L i = atN L j → i = j
theorem Blk.apartN {l : List (Int × Int)} {sc : Int} {k t z : Nat} (h : Blk l sc k t z) {n : Nat} (hn : devsL l sc = (n : Int)) : ApartN (colsOf l k t z) := by
  have hp := h.puts (s := ⟨(List.replicate (z * 64) (0 : UInt8)).toArray⟩) (by simp [ByteArray.size]) hn
  intro i j hi hj e1 e2
  rcases Nat.lt_trichotomy i j with h1 | h1 | h1
  · exact absurd ⟨by rw [(hp.dev j hj).1, (hp.dev i hi).1, e1], by rw [(hp.at_ j hj).1, (hp.at_ i hi).1, e2]⟩ (h.laid.apart i j hi hj h1)
  · exact h1
  · exact absurd ⟨by rw [(hp.dev j hj).1, (hp.dev i hi).1, e1], by rw [(hp.at_ j hj).1, (hp.at_ i hi).1, e2]⟩ (h.laid.apart j i hj hi h1)
/-- What a sector of a column reads as, behind m columns' writing. -/
theorem wrTo_now {L : List C} (hA : ApartN L) (ds : Nat → Dv) (aw : Nat → Bool) (E : List ByteArray) : ∀ m, m ≤ L.length → ∀ j, j < L.length → (wrTo ds aw L E m (devN L j)).now (atN L j) = if j < m ∧ hereB ds aw (devN L j) = true then (E.getD j ⟨#[]⟩).data.toList else (ds (devN L j)).now (atN L j) := by
  intro m
  induction m with
  | zero => intro _ j _; simp [wrTo]
  | succ m ih =>
    intro hm j hj
    rw [wrTo, putD_now, wrTo_here, ih (by omega) j hj]
    by_cases e : j = m
    · subst e
      by_cases h : hereB ds aw (devN L j) = true
      · simp [h]
      · simp [h]
    · have hne : ¬ (hereB ds aw (devN L m) = true ∧ devN L j = devN L m ∧ atN L j = atN L m) := fun h => e (hA j m hj (by omega) h.2.1 h.2.2)
      rw [if_neg hne]
      by_cases h2 : j < m
      · simp [h2, show j < m + 1 by omega]
      · simp [h2, show ¬ j < m + 1 by omega]
theorem strOf_data (s : ByteArray) : strOf s.data.toList = s := by
  unfold strOf
  cases s with
  | mk d => simp
/-- All devices are here: what was written is read raw as it is encoded. -/
theorem raw_wrote {L : List C} (hA : ApartN L) (ds : Nat → Dv) (aw : Nat → Bool) (E : List ByteArray) (hE : E.length = L.length) (hh : ∀ j, j < L.length → hereB ds aw (devN L j) = true) : rawL (wrTo ds aw L E L.length) aw L = E := by
  apply List.ext_getElem?
  intro j
  by_cases hj : j < L.length
  · rw [rawL, List.getElem?_map, List.getElem?_range hj, List.getElem?_eq_getElem (by omega)]
    simp only [Option.map_some, Option.some.injEq]
    rw [rawAt, wrTo_here, hh j hj, if_pos rfl, wrTo_now hA _ _ _ _ (Nat.le_refl _) j hj, if_pos ⟨hj, hh j hj⟩, strOf_data, List.getD_eq_getElem?_getD, List.getElem?_eq_getElem (by omega)]
    rfl
  · rw [List.getElem?_eq_none (by rw [rawL_len]; omega), List.getElem?_eq_none (by omega)]
/-- None failed. -/
theorem faTo_all {hr : Nat → Bool} {L : List C} : ∀ m, (∀ j, j < m → hr (devN L j) = true) → faTo hr L m = [] := by
  intro m
  induction m with
  | zero => intro _; rfl
  | succ m ih =>
    intro h
    rw [faTo, h m (by omega), if_pos rfl]
    exact ih fun j hj => h j (by omega)
theorem goneN_all {hr : Nat → Bool} : ∀ m, (∀ j, j < m → hr j = true) → goneN hr m = 0 := by
  intro m
  induction m with
  | zero => intro _; rfl
  | succ m ih =>
    intro h
    rw [goneN, h m (by omega), if_pos rfl]
    exact ih fun j hj => h j (by omega)
end Go.Proofs.YtlhnmcopioeboaaGreat

/- few of the laws; code.Bad. -/
namespace Go.Proofs.YtlhnmcopioeboaaGreat
set_option maxRecDepth 100000
open Go.RowKit M

/-- No text of the first k is over 1,000 bytes. -/
def shortTo (l : List ByteArray) (k : Nat) : Prop := ∀ j (h : j < l.length), j < k → l[j].size ≤ 1000

/-- What few answers. -/
def FewV (G : List ByteArray) (v : Value) : Prop := ∃ b, v = .bool b ∧ (b = true → G.length < 100 ∧ ∀ s ∈ G, s.size ≤ 1000)

/-- Are two texts unlike? -/
def neB (s t : ByteArray) : Bool := !(s.toList == t.toList)
theorem eq_of_toList {s t : ByteArray} (h : s.toList = t.toList) : s = t := by
  rw [ByteArray.toList_eq, ByteArray.toList_eq] at h
  exact extL h
theorem neB_false {s t : ByteArray} : neB s t = false ↔ s = t := by
  unfold neB
  rw [Bool.not_eq_false', beq_iff_eq]
  exact ⟨eq_of_toList, fun h => by rw [h]⟩
theorem neB_true {s t : ByteArray} : neB s t = true ↔ s ≠ t := by
  rw [ne_eq, ← neB_false]; cases neB s t <;> simp
/-- The columns among the first k that aren't as they are to be. -/
def badL (E G : List ByteArray) (k : Nat) : List Int := (idx (fun j => neB (G.getD j ⟨#[]⟩) (E.getD j ⟨#[]⟩)) k).map fun (j : Nat) => (j : Int)
theorem badL_yes {E G : List ByteArray} {k : Nat} (h : neB (G.getD k ⟨#[]⟩) (E.getD k ⟨#[]⟩) = true) : badL E G (k + 1) = badL E G k ++ [(k : Int)] := by
  unfold badL; rw [idx_yes h, List.map_append]; rfl
theorem badL_no {E G : List ByteArray} {k : Nat} (h : neB (G.getD k ⟨#[]⟩) (E.getD k ⟨#[]⟩) = false) : badL E G (k + 1) = badL E G k := by
  unfold badL; rw [idx_no h]
theorem badL_len (E G : List ByteArray) (k : Nat) : (badL E G k).length ≤ k := by unfold badL; rw [List.length_map]; exact idx_le _ _
def badOf (l : List (Int × Int)) (sc k t : Int) (s : ByteArray) (G : List ByteArray) : List Int :=
  if mayT l sc k t s.size && fitsL l sc k t ((s.size / 64 : Nat) : Int) G then badL (encOf l k.toNat t.toNat (s.size / 64) s) G (encOf l k.toNat t.toNat (s.size / 64) s).length else []
theorem getD_some {G : List ByteArray} {j : Nat} {y : ByteArray} (h : ∃ h : j < G.length, G[j] = y) : G.getD j ⟨#[]⟩ = y := by
  obtain ⟨h, rfl⟩ := h
  rw [List.getD_eq_getElem?_getD, List.getElem?_eq_getElem h]; rfl

end Go.Proofs.YtlhnmcopioeboaaGreat

/- A crash of a pool's devices; what is read behind it; columns as they are encoded have no bad one. -/
namespace Go.Proofs.YtlhnmcopioeboaaGreat
set_option maxRecDepth 100000
open Go.RowKit Go.Maps M

theorem crashTo_none (S : Dv) (t : Nat) : S.crashTo [] t = S := by
  induction t with
  | zero => rfl
  | succ t ih => rw [Dv.crashTo, if_neg (by simp), ih]
theorem crash_none (S : Dv) : S.crash [] = { S.bare with fused := false } := by
  unfold Dv.crash
  rw [crashTo_none]
theorem crash_now (S : Dv) (a : Nat) : (S.crash []).now a = S.med.getD a [] := by
  rw [crash_none]
  simp [Dv.now, Dv.bare]
theorem flush_med (S : Dv) (a : Nat) (h : a < S.med.length) : S.flush.med.getD a [] = S.now a := by
  unfold Dv.flush
  simp only
  rw [List.getD_eq_getElem?_getD, List.getElem?_map, List.getElem?_range h]
  rfl
theorem putD_med (ds : Nat → Dv) (aw : Nat → Bool) (d a : Nat) (s : ByteArray) (i : Nat) : (putD ds aw d a s i).med = (ds i).med := by
  unfold putD
  split
  · unfold upd
    split
    · rename_i e; subst e; rfl
    · rfl
  · rfl
theorem wrTo_med (ds : Nat → Dv) (aw : Nat → Bool) (L : List C) (E : List ByteArray) (m i : Nat) : (wrTo ds aw L E m i).med = (ds i).med := by
  induction m with
  | zero => rfl
  | succ m ih => rw [wrTo, putD_med, ih]
/-- The devices, of which the first j crashed. -/
def crTo (ds : Nat → Dv) (j i : Nat) : Dv := if i < j then (ds i).crash [] else ds i
theorem crTo_zero (ds : Nat → Dv) : crTo ds 0 = ds := by funext i; simp [crTo]
theorem crTo_succ (ds : Nat → Dv) (j : Nat) : upd (crTo ds j) j ((crTo ds j j).crash []) = crTo ds (j + 1) := by
  funext i
  unfold upd crTo
  by_cases e : i = j
  · subst e; simp
  · rw [if_neg e]
    by_cases h2 : i < j
    · simp [h2, show i < j + 1 by omega]
    · simp [h2, show ¬ i < j + 1 by omega]
theorem crTo_at (ds : Nat → Dv) (j : Nat) : crTo ds j j = ds j := by simp [crTo]
theorem crash_lost_eq (S : Dv) : (S.crash []).lost = S.lost := by rw [crash_none]; rfl
section
variable {X : Nat → Prop} {B : Nat} {w : World} {x : Px} {l : List (Int × Int)} {ds : Nat → Dv} {aw : Nat → Bool} {K : Nat} {P : World → Prop}
end
theorem badL_same (E : List ByteArray) : ∀ n, badL E E n = [] := by
  intro n
  induction n with
  | zero => rfl
  | succ n ih => rw [badL_no (neB_false.2 rfl), ih]
/-- A block's columns as they are encoded: they fit, and none is bad. -/
theorem Blk.whole {l : List (Int × Int)} {sc : Int} {k t z : Nat} (h : Blk l sc k t z) {s : ByteArray} (hs : s.size = z * 64) : fitsL l sc k t z (encOf l k t z s) = true ∧ badOf l sc k t s (encOf l k t z s) = [] := by
  obtain ⟨kk, u, hE⟩ := h.enc7 hs
  have hsz : ∀ x ∈ encL (colsOf l k t z) (fun i => sect s (i % z)), x.size = 0 ∨ x.size = 64 := fun x hx => .inr (encL_size hE.sound hE.hf x hx)
  have hf := hE.fits (encL_len _ _) hsz
  rw [hE.enc]
  refine ⟨hf, ?_⟩
  unfold badOf
  have hz : s.size / 64 = z := by rw [hs, Nat.mul_div_cancel _ (by decide)]
  rw [mayT_iff.2 ⟨k, t, z, rfl, rfl, hs, h⟩, hz, hf]
  show badL (encOf l k t z s) _ (encOf l k t z s).length = []
  rw [hE.enc]
  exact badL_same _ _
/-- What was written, flushed, written over and crashed is read as it was flushed. -/
theorem raw_crash {L : List C} {n : Nat} {sc : Int} {E E2 : List ByteArray} (hP : Puts n sc L E) (hA : ApartN L) (D : Dv) (hD : D.lost = false) (hlen : (D.med.length : Int) = sc) :
    rawL (crTo (wrTo (flTo (wrTo (fun _ => D) (fun _ => false) L E L.length) (fun _ => false) n) (fun _ => false) L E2 L.length) n) (fun _ => false) L = E := by
  have hl1 : ∀ i, (wrTo (fun _ => D) (fun _ => false) L E L.length i).lost = false := fun i => by
    have := congrFun (wrTo_here (fun _ => D) (fun _ => false) L E L.length) i
    unfold hereB at this
    simpa [hD] using this
  apply List.ext_getElem?
  intro j
  by_cases hj : j < L.length
  · rw [rawL, List.getElem?_map, List.getElem?_range hj, List.getElem?_eq_getElem (by rw [hP.len]; exact hj)]
    simp only [Option.map_some, Option.some.injEq]
    obtain ⟨_, hd⟩ := hP.dev j hj
    obtain ⟨_, ha⟩ := hP.at_ j hj
    have hl2 : ∀ i, (flTo (wrTo (fun _ => D) (fun _ => false) L E L.length) (fun _ => false) n i).lost = false := fun i => by
      unfold flTo
      split
      · exact hl1 i
      · exact hl1 i
    have hl3 : (wrTo (flTo (wrTo (fun _ => D) (fun _ => false) L E L.length) (fun _ => false) n) (fun _ => false) L E2 L.length (devN L j)).lost = false := by
      have := congrFun (wrTo_here (flTo (wrTo (fun _ => D) (fun _ => false) L E L.length) (fun _ => false) n) (fun _ => false) L E2 L.length) (devN L j)
      unfold hereB at this
      simpa [hl2] using this
    have hh : hereB (crTo (wrTo (flTo (wrTo (fun _ => D) (fun _ => false) L E L.length) (fun _ => false) n) (fun _ => false) L E2 L.length) n) (fun _ => false) (devN L j) = true := by
      unfold hereB crTo
      rw [if_pos hd, crash_lost_eq, hl3]
      rfl
    have hh1 : hereB (wrTo (fun _ => D) (fun _ => false) L E L.length) (fun _ => false) (devN L j) = true := by
      unfold hereB
      rw [hl1]
      rfl
    have hh0 : hereB (fun _ => D) (fun _ => false) (devN L j) = true := by simp [hereB, hD]
    rw [rawAt, hh, if_pos rfl, crTo, if_pos hd, crash_now, wrTo_med, flTo, if_pos ⟨hd, hh1⟩, flush_med _ _ (by rw [wrTo_med]; omega), wrTo_now hA _ _ _ _ (Nat.le_refl _) j hj, if_pos ⟨hj, hh0⟩, strOf_data, List.getD_eq_getElem?_getD, List.getElem?_eq_getElem (by rw [hP.len]; exact hj)]
    rfl
  · rw [List.getElem?_eq_none (by rw [rawL_len]; omega), List.getElem?_eq_none (by rw [hP.len]; omega)]
end Go.Proofs.YtlhnmcopioeboaaGreat

/- New devices: none fails. -/
namespace Go.Proofs.YtlhnmcopioeboaaGreat
set_option maxRecDepth 100000
open Go.RowKit Go.Maps M

theorem dsTo_none (fl : Nat → Bool) (D : Dv) (n : Nat) : dsTo 0 fl D n = fun _ => D := by funext i; simp [dsTo, saysB]
theorem awTo_none (fa : Nat → Bool) (n : Nat) : awTo 0 fa n = fun _ => false := by funext i; simp [awTo, saysB]
theorem zeroDv_here (sc : Int) (d : Nat) : hereB (fun _ => zeroDv sc) (fun _ => false) d = true := rfl
/-- All devices are new: none fails. -/
theorem failN_new (sc : Int) (L : List C) : failN (fun _ => zeroDv sc) (fun _ => false) L = 0 := by
  unfold failN
  rw [faTo_all _ fun j _ => zeroDv_here sc _]
  rfl
theorem errN_zero {x : Int × Int} (h : okG x = true) : errN x 0 = 0 := by
  unfold errN spareN
  have := okG_wide h
  split
  · rw [if_neg (by omega)]
  · rw [if_neg (by decide)]
theorem zeroDv_len {sc : Int} (h : 24 ≤ sc) : ((zeroDv sc).med.length : Int) = sc := by
  show ((List.replicate (newDv sc.toNat).med.length (fullS 0)).length : Int) = sc
  rw [List.length_replicate]
  show ((List.replicate sc.toNat (fullS 0)).length : Int) = sc
  rw [List.length_replicate]
  omega
end Go.Proofs.YtlhnmcopioeboaaGreat

/- The document's answers: Right, Takes, Bytes (polderref05). -/
namespace Go.Proofs.YtlhnmcopioeboaaGreat
set_option maxRecDepth 100000
open Go.RowKit

theorem Held.at2 {w0 w : World} {b : Nat} {g o : Nat} {n c : Nat} {s : Int} {l : List (Int × Int)} (h : Held w0 w b (some ⟨g, o, none⟩) n c s l) {k : Nat} (hk : k < l.length) {x : Int × Int} (hx : l[k] = x) :
    w.cell? ⟨g, o + k * 2, none⟩ = some (.int .i64 x.1) ∧ w.cell? ⟨g, o + k * 2 + 1, none⟩ = some (.int .i64 x.2) := by
  obtain ⟨g', o', ha, _, h1, h2⟩ := h.at_ hk hx
  cases ha
  exact ⟨h1, h2⟩
theorem Held.bounds {w0 w : World} {b : Nat} {a : Option Addr} {n c : Nat} {s : Int} {l : List (Int × Int)} (h : Held w0 w b a n c s l) {k : Nat} (hk : k < l.length) {x : Int × Int} (hx : l[k] = x) :
    -9223372036854775808 ≤ x.1 ∧ x.1 ≤ 9223372036854775807 ∧ -9223372036854775808 ≤ x.2 ∧ x.2 ≤ 9223372036854775807 := by
  obtain ⟨a', n', c', hv, hg, _⟩ := h.m
  cases hv
  obtain ⟨g, o, ha, hG⟩ := hg.2.2 k hk
  subst hx
  exact ⟨hG.k0, hG.k1, hG.w0, hG.w1⟩

end Go.Proofs.YtlhnmcopioeboaaGreat

/- The document's First, May (polderref06). -/
namespace Go.Proofs.YtlhnmcopioeboaaGreat
set_option maxRecDepth 100000
open Go.RowKit

set_option maxHeartbeats 1000000 in
theorem refFirst_any (l : List (Int × Int)) (s : Int) (v : Value) (w : World) (h : Meas w v l s) (hr : RightM l s) (m : Nat) (hml : m ≤ l.length) (x : Int) (hx : aheadL l m = x) :
    Calls Tryz.prog 23 #[v, .int .i64 (m : Int)] w fun e w' => e = .returned (.int .i64 x) ∧ Below w.heap.size w w' := by
  obtain ⟨a, n, c, rfl, hg, s0, s1⟩ := h
  have HG := Lib.hid (hg.below (boxed w (.cells #[.slice a n c, .int .i64 s] 24)))
  have hmn : m ≤ n := by rw [← hg.2.1]; exact hml
  have hn4 : n ≤ 4 := by rw [← hg.2.1]; exact hr.few
  have HR := Lib.hid hr
  have HX := Lib.hid hx
  have HM := Lib.hid hml
  clear hg hr hx hml
  go_enter Tryz.func23, Tryz.ntmps23
  go_wp2_with fail
  go_loop [5, 6] (fun t i => ∃ (k : Nat) (y : Int), k ≤ m ∧ i = .int .i64 k ∧ t = .int .i64 y ∧ y = aheadL l k) (fun _ i => m - (intOf i).toNat)
  case atStart => exact ⟨0, 0, Nat.zero_le _, rfl, rfl, (aheadL_zero l).symm⟩
  case round =>
    obtain ⟨k, y, hk, rfl, rfl, hy⟩ := hrel
    by_cases hlt : k < m
    · obtain ⟨g, o, kk, d, rfl, hld, hG⟩ := HG.out.at_ k (by omega)
      obtain ⟨_, c0, c1, p0, p1, q0, q1⟩ := hG
      have hb := HR.out.bounds k (by have := HM.out; omega)
      have hb' := HR.out.bounds (k + 1) (by have := HM.out; omega)
      have hs : aheadL l (k + 1) = y + d := by
        obtain ⟨hk', e⟩ := hld
        rw [aheadL_succ l k hk', e, hy]
      have HS := Lib.hid hs
      have hy0 : 0 ≤ y ∧ y ≤ 40 := by omega
      have hd0 : 0 ≤ y + d ∧ y + d ≤ 40 := by omega
      clear hb hb' hs hy hld
      obtain ⟨y0, y1⟩ := hy0
      obtain ⟨z0, z1⟩ := hd0
      go_wp2
      go_round
      case rel => exact ⟨k + 1, y + d, by omega, by go_num, by go_num, HS.out.symm⟩
      case measure => simp [intOf]; omega
    · obtain rfl : k = m := by omega
      have HY := Lib.hid hy
      clear hy
      go_wp2
      go_ret
      exact ⟨by rw [← HX.out, ← HY.out]; rfl, boxed _ _⟩

theorem new_pair (U : World) (x y : Value) (ty : TypeId) : (U.alloc (.cells #[x, y] ty)).cell? ⟨U.heap.size, 0, none⟩ = some x ∧ (U.alloc (.cells #[x, y] ty)).cell? ⟨U.heap.size, 1, none⟩ = some y := by
  simp
end Go.Proofs.YtlhnmcopioeboaaGreat

/- The document's Of (polderref06): the same columns. -/
namespace Go.Proofs.YtlhnmcopioeboaaGreat
set_option maxRecDepth 100000
open Go.RowKit

/-- A row begun: k sectors are done, j columns of row r stand. -/
def parMid (f : Int) (t u k r : Nat) : Nat → List C
  | 0 => parTo f t u k
  | 1 => parTo f t u k ++ [colP f u (t + (parTo f t u k).length) r true]
  | j + 2 => parTo f t u (k + (j + 1))
theorem parMid_step (f : Int) (t u k r j : Nat) (hu : 2 ≤ u - 1) (hk : k = r * (u - 1)) (hj : j ≤ u - 1) : parMid f t u k r (j + 1) = parMid f t u k r j ++ [colP f u (t + (parMid f t u k r j).length) r (decide (j = 0))] := by
  have hup : 0 < u - 1 := by omega
  match j, hj with
  | 0, _ => rfl
  | 1, _ =>
    have h1 : k % (u - 1) = 0 := by rw [hk]; exact Nat.mul_mod_left _ _
    have h2 : k / (u - 1) = r := by rw [hk]; exact Nat.mul_div_cancel _ hup
    show parTo f t u (k + 1) = _
    rw [parTo, if_pos h1, h2]
    simp [parMid, Nat.add_assoc]
  | i + 2, hj =>
    have h1 : (k + (i + 1)) % (u - 1) = i + 1 := by rw [hk, Nat.mul_comm, Nat.mul_add_mod, Nat.mod_eq_of_lt (by omega)]
    have h2 : (k + (i + 1)) / (u - 1) = r := by rw [hk, Nat.mul_comm, Nat.mul_add_div hup, Nat.div_eq_of_lt (by omega), Nat.add_zero]
    show parTo f t u (k + (i + 1) + 1) = _
    rw [parTo, if_neg (by omega), h2]
    simp [parMid]
theorem parMid_len (f : Int) (t u k r j : Nat) : (parMid f t u k r j).length ≤ 2 * (k + j) := by
  match j with
  | 0 => exact Nat.le_trans (parTo_len f t u k) (by omega)
  | 1 =>
    have := parTo_len f t u k
    show (parTo f t u k ++ [_]).length ≤ _
    rw [List.length_append]
    simp
    omega
  | i + 2 => exact Nat.le_trans (parTo_len f t u (k + (i + 1))) (by omega)

set_option maxHeartbeats 2000000 in
theorem refOf_mir (l : List (Int × Int)) (s : Int) (v : Value) (w : World) (h : Meas w v l s) (hr : RightM l s) (k : Nat) (hk : k < l.length) (u : Nat) (hu : l[k] = (0, (u : Int))) (t : Int) (t0 : 0 ≤ t) (t1 : t ≤ 4096) (z : Nat) (z4 : z ≤ 4) :
    Calls Tryz.prog 9 #[v, .agg #[.int .i64 (k : Int), .int .i64 t], .int .i64 (z : Int)] w fun e w' => ∃ v', e = .returned v' ∧ OwnC w.heap.size w' v' (mirL (aheadL l k) t u z) ∧ Below w.heap.size w w' := by
  obtain ⟨a, n, c, rfl, hg⟩ := id h
  have hn := hg.1.2.1
  have hn4 : n ≤ 4 := by rw [← hn]; exact hr.few
  have hkn : k < n := by rw [← hn]; exact hk
  obtain ⟨uu1, uu8⟩ : 1 ≤ (u : Int) ∧ (u : Int) ≤ 8 := by have := okG_wide (hr.all k hk); rw [hu] at this; exact this
  have uu8' : u ≤ 8 := by omega
  obtain ⟨f, hf⟩ : ∃ f, aheadL l k = f := ⟨_, rfl⟩
  have hfb := hr.bounds k (Nat.le_of_lt hk)
  rw [hf] at hfb ⊢
  have f0 : 0 ≤ f := by omega
  have f1 : f ≤ 32 := by omega
  have K1 := Lib.hid (HeldP.start (k : Int) t h)
  have HR := Lib.hid hr
  have HL : Hid (∃ hk : k < l.length, l[k] = (0, (u : Int))) := Lib.hid ⟨hk, hu⟩
  have HF := Lib.hid hf
  have c0 := K1.out.h.c0
  have c1 := K1.out.h.c1
  have p0 := K1.out.p0
  obtain ⟨g, o, rfl, hlt, e0, e1⟩ := K1.out.h.at_ HL.out.1 HL.out.2
  dsimp only at e0 e1
  have hb1 := K1.out.h.lt
  have hb2 := K1.out.plt
  clear h hg hr hn hf hfb hu hk
  go_enter Tryz.func9, Tryz.ntmps9
  go_upto_region 2 with (fail)
  generalize (w.alloc (.cells #[.slice (some ⟨g, o, none⟩) n c, .int .i64 s] 24)).alloc (.cells #[.int .i64 (k : Int), .int .i64 t] 26) = W1 at *
  have K2 := Lib.hid (K1.out.next (boxed W1 (.cells #[.int .i64 0, .int .i64 (u : Int)] 52)))
  have hx := Lib.hid (new_pair W1 (.int .i64 0) (.int .i64 (u : Int)) 52)
  have hxs : W1.heap.size < (W1.alloc (.cells #[.int .i64 0, .int .i64 (u : Int)] 52)).heap.size := by simp
  go_wp2_with fail
  refine (refFirst_any l s _ _ K2.out.h.m HR.out k (Nat.le_of_lt HL.out.1) f HF.out).mono ?_
  rintro e w1 ⟨rfl, b1⟩
  have K3 := Lib.hid (K2.out.next b1)
  have hx0 := (b1.cell (p := ⟨W1.heap.size, 0, none⟩) hxs).trans hx.out.1
  have HX1 := Lib.hid ((b1.cell (p := ⟨W1.heap.size, 1, none⟩) hxs).trans hx.out.2)
  have hxl : W1.heap.size < w1.heap.size := Nat.lt_of_lt_of_le hxs b1.size
  have hW : w.heap.size ≤ w1.heap.size := K3.out.h.below.size
  clear c0 c1 p0 e0 e1 hb1 hb2 hlt b1 hx hxs K1 K2
  generalize W1.heap.size = bx at *
  go_wp2_with fail
  go_loopw [7, 10] (fun t8 i wr => ∃ d : Nat, d ≤ u ∧ i = .int .i64 (d : Int) ∧ Hid (OwnC w1.heap.size wr t8 (mirL f t d z)) ∧ Hid (Below w1.heap.size w1 wr)) (fun _ i _ => u - (intOf i).toNat)
  case atStart => exact ⟨0, Nat.zero_le _, rfl, Lib.hid (OwnC.nil _ _), Lib.hid (Below.refl _ _)⟩
  case round =>
    obtain ⟨d, hd, rfl, HO, HB⟩ := hrel
    have x1 := (HB.out.cell (p := ⟨bx, 1, none⟩) hxl).trans HX1.out
    by_cases hdu : d < u
    · go_wp2_with fail
      go_loopw [7, 11] (fun t8 i wr => ∃ j : Nat, j ≤ z ∧ i = .int .i64 (j : Int) ∧ Hid (OwnC w1.heap.size wr t8 (mirL f t d z ++ mirRow f t d j)) ∧ Hid (Below w1.heap.size w1 wr)) (fun _ i _ => z - (intOf i).toNat)
      case atStart => exact ⟨0, Nat.zero_le _, rfl, Lib.hid (by simpa [mirRow] using HO.out), HB⟩
      case round =>
        obtain ⟨j, hj, rfl, HO2, HB2⟩ := hrel
        have K4 := Lib.hid (K3.out.next HB2.out)
        have q1 := K4.out.p1
        by_cases hjz : j < z
        · have hsz := HB2.out.size
          have hlen : Hid ((mirL f t d z ++ mirRow f t d j).length ≤ 100000) := Lib.hid (by
            rw [List.length_append, mirL_len, mirRow_len]
            have : d * z ≤ 8 * 4 := Nat.mul_le_mul (by omega) z4
            omega)
          go_wp2_with (first | (at_builtin; refine wpList_append_col _ rfl _ _ rfl w1.heap.size _ _ ⟨f + d, 16 + t + j, false, j⟩ wr.heap.size 1 rfl rfl (HO2.out.below (boxed _ _)) ⟨by simp, by simp, by simp, by simp⟩ (by simp; omega) hlen.out ?_; intro v3 w3 hown3 hb3 hs3))
          go_roundw
          case rel =>
            refine ⟨j + 1, by omega, by go_num, Lib.hid ?_, Lib.hid ((HB2.out.alloc hsz _).trans hb3)⟩
            rw [mirRow_succ, ← List.append_assoc]
            exact hown3
          case measure => simp [intOf]; omega
        · obtain rfl : j = z := by omega
          go_wp2
          go_roundw
          case rel => exact ⟨d + 1, by omega, by go_num, Lib.hid (by rw [mirL_succ]; exact HO2.out), HB2⟩
          case measure => simp [intOf]; omega
    · obtain rfl : d = u := by omega
      go_wp2
      go_ret
      exact ⟨_, rfl, HO.out.lower hW, next K3.out.h.below HB.out⟩
end Go.Proofs.YtlhnmcopioeboaaGreat

/- The document's Of (polderref06), of a Parity. -/
namespace Go.Proofs.YtlhnmcopioeboaaGreat
set_option maxRecDepth 100000
open Go.RowKit

theorem step_append_run {P : Program} {ops : Array Oper} {o : Oper} {a : Act} {w : World} {K : Act → World → Prop} {Q : Exit → Act → World → Prop} {E : Prop} (hg : o.guard = none) (s x : Operand) (t : TypeId)
    (hop : o.op = Op.call { callee := Callee.builtin Builtin.append, args := #[s, x], argTypes := #[t, t] }) (v xv : Value) (hs : a.eval s = v) (hx : a.eval x = xv) (r : Value) (w' : World)
    (hr : (Builtin.append_ #[t, t] o.type #[v, xv]).run P w = .ok r w') (hK : K (a.put o.dst r) w') : if Region.wanted o (yielded ops a.tmps) = true then Oper.wp P o a w K Q else E := by
  have hw : Region.wanted o (yielded ops a.tmps) = true := by simp [Region.wanted, hg]
  rw [if_pos hw]
  exact Lib.wp_append_run w s x t t hop v xv hs hx r w' hr hK
theorem app_col (w : World) (B : Nat) (v : Value) (l : List C) (c : C) (g c' : Nat) (ty : TypeId) (hv : OwnC B w v l) (hc : IsC w g 0 c) (hB : B ≤ w.heap.size) (hN : l.length ≤ 100000) :
    ∃ v' w', (Builtin.append_ #[41, 41] ty #[v, .slice (some ⟨g, 0, none⟩) 1 c']).run Tryz.prog w = .ok v' w' ∧ OwnC B w' v' (l ++ [c]) ∧ Below B w w' := by
  obtain ⟨i, hi, hz, hsz, hb⟩ := info_col
  obtain ⟨v', w', h1, h2, h3, _⟩ := run_append_own_at (P := Tryz.prog) w B 41 ty 44 i _ 4 32 Tryz.underlying41 hi hz hsz hb rfl (by decide) v l.length (flatC l) hv ⟨g, 0, none⟩ 1 c' (C.cells c) rfl
    (fun j u hj => by
      have hlt : j < 4 := (List.getElem?_eq_some_iff.1 hj).1
      rw [Go.WideShapes.add_plain, ← hj]
      exact hc.get j hlt) (fun u hu => flatC_one [c] u (by simpa [flatC] using hu)) (by unfold maxLen; omega) (by omega) hB
  refine ⟨v', w', h1, ?_, (Below.refl B w).grown h3 hB fun k hk => (World.ownsRow.lt hv k hk).1⟩
  unfold OwnC
  rw [List.length_append, flatC_app]
  have e : flatC [c] = C.cells c := by simp [flatC]
  rw [e]
  exact h2

set_option maxHeartbeats 2000000 in
theorem refOf_par (l : List (Int × Int)) (s : Int) (v : Value) (w : World) (h : Meas w v l s) (hr : RightM l s) (k : Nat) (hk : k < l.length) (u : Nat) (hu : l[k] = (1, (u : Int))) (t : Nat) (t1 : t ≤ 40000) (z : Nat) (z4 : z ≤ 4) :
    Calls Tryz.prog 9 #[v, .agg #[.int .i64 (k : Int), .int .i64 (t : Int)], .int .i64 (z : Int)] w fun e w' => ∃ v', e = .returned v' ∧ OwnC w.heap.size w' v' (parTo (aheadL l k) t u z) ∧ Below w.heap.size w w' := by
  obtain ⟨a, n, c, rfl, hg⟩ := id h
  have hn := hg.1.2.1
  have hn4 : n ≤ 4 := by rw [← hn]; exact hr.few
  have hkn : k < n := by rw [← hn]; exact hk
  obtain ⟨uu1, uu8⟩ : 3 ≤ u ∧ u ≤ 8 := by
    have := hr.all k hk
    rw [hu] at this
    rcases okG_cases this with ⟨h1, _⟩ | ⟨_, h1, h2⟩
    · omega
    · omega
  obtain ⟨f, hf⟩ : ∃ f, aheadL l k = f := ⟨_, rfl⟩
  have hfb := hr.bounds k (Nat.le_of_lt hk)
  rw [hf] at hfb ⊢
  have f0 : 0 ≤ f := by omega
  have f1 : f ≤ 32 := by omega
  have K1 := Lib.hid (HeldP.start (k : Int) (t : Int) h)
  have HR := Lib.hid hr
  have HL : Hid (∃ hk : k < l.length, l[k] = (1, (u : Int))) := Lib.hid ⟨hk, hu⟩
  have HF := Lib.hid hf
  have c0 := K1.out.h.c0
  have c1 := K1.out.h.c1
  have p0 := K1.out.p0
  obtain ⟨g, o, rfl, hlt, e0, e1⟩ := K1.out.h.at_ HL.out.1 HL.out.2
  dsimp only at e0 e1
  have hb1 := K1.out.h.lt
  have hb2 := K1.out.plt
  clear h hg hr hn hf hfb hu hk
  go_enter Tryz.func9, Tryz.ntmps9
  go_upto_region 2 with (fail)
  generalize (w.alloc (.cells #[.slice (some ⟨g, o, none⟩) n c, .int .i64 s] 24)).alloc (.cells #[.int .i64 (k : Int), .int .i64 (t : Int)] 26) = W1 at *
  have K2 := Lib.hid (K1.out.next (boxed W1 (.cells #[.int .i64 1, .int .i64 (u : Int)] 52)))
  have hx := Lib.hid (new_pair W1 (.int .i64 1) (.int .i64 (u : Int)) 52)
  have hxs : W1.heap.size < (W1.alloc (.cells #[.int .i64 1, .int .i64 (u : Int)] 52)).heap.size := by simp
  go_wp2_with fail
  refine (refFirst_any l s _ _ K2.out.h.m HR.out k (Nat.le_of_lt HL.out.1) f HF.out).mono ?_
  rintro e w1 ⟨rfl, b1⟩
  have K3 := Lib.hid (K2.out.next b1)
  have hx0 := (b1.cell (p := ⟨W1.heap.size, 0, none⟩) hxs).trans hx.out.1
  have HX1 := Lib.hid ((b1.cell (p := ⟨W1.heap.size, 1, none⟩) hxs).trans hx.out.2)
  have hxl : W1.heap.size < w1.heap.size := Nat.lt_of_lt_of_le hxs b1.size
  have hW : w.heap.size ≤ w1.heap.size := K3.out.h.below.size
  have q1 := K3.out.p1
  clear c0 c1 p0 e0 e1 hb1 hb2 hlt b1 hx hxs K1 K2
  generalize W1.heap.size = bx at *
  obtain ⟨p, hp⟩ : ∃ p : Nat, (u : Int) - 1 = (p : Int) := ⟨u - 1, by omega⟩
  have HPu : Hid (u - 1 = p) := Lib.hid (by omega)
  have pp2 : 2 ≤ p := by omega
  have pp7 : p ≤ 7 := by omega
  go_wp2_with fail
  clear hx0 q1
  go_loopw [2, 7, 12, 13] (fun i2 t7 i12 i13 wr => ∃ m k r A : Nat, m + k = z ∧ A ≤ 50000 ∧ r ≤ 4 ∧ i2 = .int .i64 (m : Int) ∧ i12 = .int .i64 (A : Int) ∧ i13 = .int .i64 (r : Int) ∧ Hid (k = r * p ∨ m = 0) ∧ Hid (A = t + (parTo f t u k).length) ∧ Hid (r ≤ k) ∧ Hid (OwnC w1.heap.size wr t7 (parTo f t u k)) ∧ Hid (Below w1.heap.size w1 wr)) (fun i _ _ _ _ => (intOf i).toNat)
  case atStart => exact ⟨z, 0, 0, t, by omega, by omega, by omega, rfl, rfl, rfl, Lib.hid (.inl (by simp)), Lib.hid rfl, Lib.hid (Nat.le_refl _), Lib.hid (OwnC.nil _ _), Lib.hid (Below.refl _ _)⟩
  case round =>
    obtain ⟨m, k', r, A, hmk, hA, hr4, rfl, rfl, rfl, HKR, HA, HRK, HO, HB⟩ := hrel
    have x1 := (HB.out.cell (p := ⟨bx, 1, none⟩) hxl).trans HX1.out
    by_cases hm0 : 0 < m
    · have HKR' : Hid (k' = r * p) := Lib.hid (by
        rcases HKR.out with h | h
        · exact h
        · omega)
      have m4 : m ≤ 4 := by omega
      by_cases hpm : p < m
      · have hpm' : (p : Int) < (m : Int) := by omega
        have HNN : Hid (p = p ∨ p = m) := Lib.hid (by omega)
        have hn1 : 1 ≤ p := by omega
        go_wp2_with fail
        go_loopw [7, 12, 15] (fun t7 i12 i15 wr => ∃ j A : Nat, j ≤ p + 1 ∧ A ≤ 60000 ∧ i15 = .int .i64 (j : Int) ∧ i12 = .int .i64 (A : Int) ∧ Hid (A = t + (parMid f t u k' r j).length) ∧ Hid (OwnC w1.heap.size wr t7 (parMid f t u k' r j)) ∧ Hid (Below w1.heap.size w1 wr)) (fun _ _ i _ => p + 1 - (intOf i).toNat)
        case atStart => exact ⟨0, A, Nat.zero_le _, by omega, rfl, rfl, HA, HO, HB⟩
        case round =>
          obtain ⟨j, B, hj, hB6, rfl, rfl, HBL, HOj, HBj⟩ := hrel
          clear x1
          have x1 := (HBj.out.cell (p := ⟨bx, 1, none⟩) hxl).trans HX1.out
          by_cases hjn : j ≤ p
          · have hup : 0 < u := by omega
            have hq1 := Nat.mod_lt B hup
            have hq2 := Nat.div_le_self B u
            obtain ⟨qm, hqm⟩ : ∃ qm : Nat, (B : Int) % (u : Int) = (qm : Int) := ⟨B % u, by simp⟩
            obtain ⟨qd, hqd⟩ : ∃ qd : Nat, (B : Int) / (u : Int) = (qd : Int) := ⟨B / u, by simp⟩
            have HQM : Hid (B % u = qm) := Lib.hid (by have : ((B % u : Nat) : Int) = (qm : Int) := by rw [← hqm]; simp
                                                       omega)
            have HQD : Hid (B / u = qd) := Lib.hid (by have : ((B / u : Nat) : Int) = (qd : Int) := by rw [← hqd]; simp
                                                       omega)
            have hqm8 : qm ≤ 8 := by have := HQM.out; omega
            have hqd8 : qd ≤ 60000 := by have := HQD.out; omega
            clear hq1 hq2
            have HST := Lib.hid (parMid_step f t u k' r j (by have := HPu.out; omega) (by rw [HPu.out]; exact HKR'.out) (by rw [HPu.out]; omega))
            have HC : Hid (colP f u (t + (parMid f t u k' r j).length) r (decide (j = 0)) = ⟨f + (qm : Int), 16 + (qd : Int), decide (j = 0), (r : Int)⟩) := Lib.hid (by rw [← HBL.out]; unfold colP; rw [HQM.out, HQD.out])
            have HLE : Hid ((parMid f t u k' r j).length ≤ 100000) := Lib.hid (Nat.le_trans (parMid_len f t u k' r j) (by omega))
            have hsz := HBj.out.size
            have hB5 : B + 1 ≤ 60000 := by have h1 := HBL.out; have h2 := parMid_len f t u k' r j; omega
            have i1 : IntKind.i64.wrap (f + (qm : Int)) = f + (qm : Int) := by rw [IntKind.wrap_i64]; omega
            have i2 : IntKind.i64.wrap (16 + (qd : Int)) = 16 + (qd : Int) := by rw [IntKind.wrap_i64]; omega
            have i3 : IntKind.i64.wrap (16 : Int) = 16 := by decide
            have i4 : ((u : Int) == 0) = false := by simp; omega
            have i9 : ¬ (u : Int) = 0 := by omega
            have i10 : ¬ u = 0 := by omega
            have i5 : IntKind.i64.wrap (qm : Int) = (qm : Int) := by rw [IntKind.wrap_i64]; omega
            have i6 : IntKind.i64.wrap (qd : Int) = (qd : Int) := by rw [IntKind.wrap_i64]; omega
            have i7 : Int.tmod (B : Int) (u : Int) = (qm : Int) := by rw [Int.tmod_eq_emod_of_nonneg (by omega)]; exact hqm
            have i8 : Int.tdiv (B : Int) (u : Int) = (qd : Int) := by rw [Int.tdiv_eq_ediv_of_nonneg (by omega)]; exact hqd
            obtain ⟨bj, hbj⟩ : ∃ bj, ((j : Int) == 0) = bj := ⟨_, rfl⟩
            have HBJ : Hid (decide (j = 0) = bj) := Lib.hid (by rw [← hbj, Bool.eq_iff_iff, decide_eq_true_iff, beq_iff_eq]; omega)
            rw [HBJ.out] at HC HST
            go_wp2_with fail
            have HAPP : Hid (∀ ty, ∃ v3 w3, (Builtin.append_ #[41, 41] ty #[u7, .slice (some ⟨wr.heap.size, 0, none⟩) 1 1]).run Tryz.prog (wr.alloc (.cells #[.int .i64 (f + (qm : Int)), .int .i64 (16 + (qd : Int)), .bool bj, .int .i64 (r : Int)] 44)).drew = .ok v3 w3 ∧ OwnC w1.heap.size w3 v3 (parMid f t u k' r j ++ [⟨f + (qm : Int), 16 + (qd : Int), bj, (r : Int)⟩]) ∧ Below w1.heap.size (wr.alloc (.cells #[.int .i64 (f + (qm : Int)), .int .i64 (16 + (qd : Int)), .bool bj, .int .i64 (r : Int)] 44)).drew w3) :=
              Lib.hid fun ty => app_col _ w1.heap.size u7 _ ⟨f + (qm : Int), 16 + (qd : Int), bj, (r : Int)⟩ wr.heap.size 1 ty ((HOj.out.below (boxed _ _)).below (Below.refl _ _).drew) ⟨by simp, by simp, by simp, by simp⟩ (by simp; omega) HLE.out
            have hlx : bx < wr.heap.size := Nat.lt_of_lt_of_le hxl hsz
            go_region_held3 (fun W => W.cell? ⟨bx, 1, none⟩ = some (.int .i64 (u : Int)))
              (first | exact x1 | exact y1 | exact (((boxed wr _).cell (p := ⟨bx, 1, none⟩) hlx)).trans x1 | exact ((((boxed wr _).drew).cell (p := ⟨bx, 1, none⟩) hlx)).trans x1)
              (first | (obtain ⟨v3, w3, ea, hown3, hb3⟩ := HAPP.out 41; have y1 : w3.cell? ⟨bx, 1, none⟩ = some (.int .i64 (u : Int)) := (hb3.cell (p := ⟨bx, 1, none⟩) hxl).trans (((((boxed wr _).drew).cell (p := ⟨bx, 1, none⟩) hlx)).trans x1); refine step_append_run rfl _ _ _ rfl _ _ rfl rfl _ _ ea ?_))
            all_goals
              have HO3 := Lib.hid hown3
              have HB3 := Lib.hid hb3
              clear hown3 hb3
              go_wp2
              go_roundw
              case rel =>
                refine ⟨j + 1, B + 1, by omega, by omega, by go_num, by go_num, Lib.hid ?_, Lib.hid ?_, Lib.hid ((grows_alloc HBj.out _).drew.trans HB3.out)⟩
                · rw [HST.out, List.length_append]; have := HBL.out; simp; omega
                · rw [HST.out, HC.out]; exact HO3.out
              case measure => simp [intOf]; omega
          · obtain rfl : j = p + 1 := by omega
            obtain ⟨q, hq⟩ : ∃ q, p = q + 1 := ⟨p - 1, by omega⟩
            have HPM : Hid (parMid f t u k' r (p + 1) = parTo f t u (k' + p)) := Lib.hid (by rw [hq]; rfl)
            clear hq
            go_wp2
            go_roundw
            case rel =>
              refine ⟨m - p, k' + p, r + 1, B, by omega, by have h1 := HBL.out; have h2 := parMid_len f t u k' r (p + 1); omega, by have := HRK.out; omega, by go_num, rfl, by go_num, Lib.hid ?_, Lib.hid (by rw [← HPM.out]; exact HBL.out), Lib.hid (by have := HRK.out; omega), Lib.hid (by rw [← HPM.out]; exact HOj.out), HBj⟩
              left; rw [Nat.add_mul, Nat.one_mul, ← HKR'.out]
            case measure => simp [intOf]; omega
      · have hpm' : ¬ (p : Int) < (m : Int) := by omega
        have HNN : Hid (m = p ∨ m = m) := Lib.hid (by omega)
        have hn1 : 1 ≤ m := by omega
        go_wp2_with fail
        go_loopw [7, 12, 15] (fun t7 i12 i15 wr => ∃ j A : Nat, j ≤ m + 1 ∧ A ≤ 60000 ∧ i15 = .int .i64 (j : Int) ∧ i12 = .int .i64 (A : Int) ∧ Hid (A = t + (parMid f t u k' r j).length) ∧ Hid (OwnC w1.heap.size wr t7 (parMid f t u k' r j)) ∧ Hid (Below w1.heap.size w1 wr)) (fun _ _ i _ => m + 1 - (intOf i).toNat)
        case atStart => exact ⟨0, A, Nat.zero_le _, by omega, rfl, rfl, HA, HO, HB⟩
        case round =>
          obtain ⟨j, B, hj, hB6, rfl, rfl, HBL, HOj, HBj⟩ := hrel
          clear x1
          have x1 := (HBj.out.cell (p := ⟨bx, 1, none⟩) hxl).trans HX1.out
          by_cases hjn : j ≤ m
          · have hup : 0 < u := by omega
            have hq1 := Nat.mod_lt B hup
            have hq2 := Nat.div_le_self B u
            obtain ⟨qm, hqm⟩ : ∃ qm : Nat, (B : Int) % (u : Int) = (qm : Int) := ⟨B % u, by simp⟩
            obtain ⟨qd, hqd⟩ : ∃ qd : Nat, (B : Int) / (u : Int) = (qd : Int) := ⟨B / u, by simp⟩
            have HQM : Hid (B % u = qm) := Lib.hid (by have : ((B % u : Nat) : Int) = (qm : Int) := by rw [← hqm]; simp
                                                       omega)
            have HQD : Hid (B / u = qd) := Lib.hid (by have : ((B / u : Nat) : Int) = (qd : Int) := by rw [← hqd]; simp
                                                       omega)
            have hqm8 : qm ≤ 8 := by have := HQM.out; omega
            have hqd8 : qd ≤ 60000 := by have := HQD.out; omega
            clear hq1 hq2
            have HST := Lib.hid (parMid_step f t u k' r j (by have := HPu.out; omega) (by rw [HPu.out]; exact HKR'.out) (by rw [HPu.out]; omega))
            have HC : Hid (colP f u (t + (parMid f t u k' r j).length) r (decide (j = 0)) = ⟨f + (qm : Int), 16 + (qd : Int), decide (j = 0), (r : Int)⟩) := Lib.hid (by rw [← HBL.out]; unfold colP; rw [HQM.out, HQD.out])
            have HLE : Hid ((parMid f t u k' r j).length ≤ 100000) := Lib.hid (Nat.le_trans (parMid_len f t u k' r j) (by omega))
            have hsz := HBj.out.size
            have hB5 : B + 1 ≤ 60000 := by have h1 := HBL.out; have h2 := parMid_len f t u k' r j; omega
            have i1 : IntKind.i64.wrap (f + (qm : Int)) = f + (qm : Int) := by rw [IntKind.wrap_i64]; omega
            have i2 : IntKind.i64.wrap (16 + (qd : Int)) = 16 + (qd : Int) := by rw [IntKind.wrap_i64]; omega
            have i3 : IntKind.i64.wrap (16 : Int) = 16 := by decide
            have i4 : ((u : Int) == 0) = false := by simp; omega
            have i9 : ¬ (u : Int) = 0 := by omega
            have i10 : ¬ u = 0 := by omega
            have i5 : IntKind.i64.wrap (qm : Int) = (qm : Int) := by rw [IntKind.wrap_i64]; omega
            have i6 : IntKind.i64.wrap (qd : Int) = (qd : Int) := by rw [IntKind.wrap_i64]; omega
            have i7 : Int.tmod (B : Int) (u : Int) = (qm : Int) := by rw [Int.tmod_eq_emod_of_nonneg (by omega)]; exact hqm
            have i8 : Int.tdiv (B : Int) (u : Int) = (qd : Int) := by rw [Int.tdiv_eq_ediv_of_nonneg (by omega)]; exact hqd
            obtain ⟨bj, hbj⟩ : ∃ bj, ((j : Int) == 0) = bj := ⟨_, rfl⟩
            have HBJ : Hid (decide (j = 0) = bj) := Lib.hid (by rw [← hbj, Bool.eq_iff_iff, decide_eq_true_iff, beq_iff_eq]; omega)
            rw [HBJ.out] at HC HST
            go_wp2_with fail
            have HAPP : Hid (∀ ty, ∃ v3 w3, (Builtin.append_ #[41, 41] ty #[u7, .slice (some ⟨wr.heap.size, 0, none⟩) 1 1]).run Tryz.prog (wr.alloc (.cells #[.int .i64 (f + (qm : Int)), .int .i64 (16 + (qd : Int)), .bool bj, .int .i64 (r : Int)] 44)).drew = .ok v3 w3 ∧ OwnC w1.heap.size w3 v3 (parMid f t u k' r j ++ [⟨f + (qm : Int), 16 + (qd : Int), bj, (r : Int)⟩]) ∧ Below w1.heap.size (wr.alloc (.cells #[.int .i64 (f + (qm : Int)), .int .i64 (16 + (qd : Int)), .bool bj, .int .i64 (r : Int)] 44)).drew w3) :=
              Lib.hid fun ty => app_col _ w1.heap.size u7 _ ⟨f + (qm : Int), 16 + (qd : Int), bj, (r : Int)⟩ wr.heap.size 1 ty ((HOj.out.below (boxed _ _)).below (Below.refl _ _).drew) ⟨by simp, by simp, by simp, by simp⟩ (by simp; omega) HLE.out
            have hlx : bx < wr.heap.size := Nat.lt_of_lt_of_le hxl hsz
            go_region_held3 (fun W => W.cell? ⟨bx, 1, none⟩ = some (.int .i64 (u : Int)))
              (first | exact x1 | exact y1 | exact (((boxed wr _).cell (p := ⟨bx, 1, none⟩) hlx)).trans x1 | exact ((((boxed wr _).drew).cell (p := ⟨bx, 1, none⟩) hlx)).trans x1)
              (first | (obtain ⟨v3, w3, ea, hown3, hb3⟩ := HAPP.out 41; have y1 : w3.cell? ⟨bx, 1, none⟩ = some (.int .i64 (u : Int)) := (hb3.cell (p := ⟨bx, 1, none⟩) hxl).trans (((((boxed wr _).drew).cell (p := ⟨bx, 1, none⟩) hlx)).trans x1); refine step_append_run rfl _ _ _ rfl _ _ rfl rfl _ _ ea ?_))
            all_goals
              have HO3 := Lib.hid hown3
              have HB3 := Lib.hid hb3
              clear hown3 hb3
              go_wp2
              go_roundw
              case rel =>
                refine ⟨j + 1, B + 1, by omega, by omega, by go_num, by go_num, Lib.hid ?_, Lib.hid ?_, Lib.hid ((grows_alloc HBj.out _).drew.trans HB3.out)⟩
                · rw [HST.out, List.length_append]; have := HBL.out; simp; omega
                · rw [HST.out, HC.out]; exact HO3.out
              case measure => simp [intOf]; omega
          · obtain rfl : j = m + 1 := by omega
            obtain ⟨q, hq⟩ : ∃ q, m = q + 1 := ⟨m - 1, by omega⟩
            have HPM : Hid (parMid f t u k' r (m + 1) = parTo f t u (k' + m)) := Lib.hid (by rw [hq]; rfl)
            clear hq
            go_wp2
            go_roundw
            case rel =>
              refine ⟨m - m, k' + m, r + 1, B, by omega, by have h1 := HBL.out; have h2 := parMid_len f t u k' r (m + 1); omega, by have := HRK.out; omega, by go_num, rfl, by go_num, Lib.hid ?_, Lib.hid (by rw [← HPM.out]; exact HBL.out), Lib.hid (by have := HRK.out; omega), Lib.hid (by rw [← HPM.out]; exact HOj.out), HBj⟩
              right; omega
            case measure => simp [intOf]; omega
    · obtain rfl : m = 0 := by omega
      obtain rfl : k' = z := by omega
      go_wp2
      go_ret
      exact ⟨_, rfl, HO.out.lower hW, next K3.out.h.below HB.out⟩
end Go.Proofs.YtlhnmcopioeboaaGreat
