/-
  The walk of polderlaw10.HealLook: it returns true, and writes nothing that was there.
-/
import Derived.Test.YtiffkbmcikiioaaGreatY49
import Derived.Test.YtiffkbmcikiioaaGreatY50
import Derived.Test.YtiffkbmcikiioaaGreatY47
import Derived.Test.YtiffkbmcikiioaaGreatY06
import Derived.Test.YtiffkbmcikiioaaGreatHw
import Derived.Test.YtiffkbmcikiioaaGreatHx
namespace Go.Proofs.YtiffkbmcikiioaaGreat
set_option maxRecDepth 100000
open Go.RowKit Go.Shelf Go.Maps M

/-- Devices and a pointer in boxes. -/
structure XQ (x : Px) (q : Ptr) (b : Nat) (w : World) : Prop where
  x : BoxX x b w
  q : Box w (b + 1) q
theorem boxesXQ {B : Nat} {w : World} {x : Px} {l : List (Int × Int)} {ds : Nat → Dv} {aw : Nat → Bool} {K : Nat} {P : World → Prop} (h : St B w x l ds aw K P) (q : Ptr) :
    St B ((w.alloc (.cells #[.slice x.ga x.gn x.gc, .int .i64 x.sc, .slice (some ⟨x.lb, 0, none⟩) x.n x.n, .slice (some ⟨x.ab, 0, none⟩) x.n x.n] 37)).alloc (.cells q.cells 31)) x l ds aw K (XQ x q w.heap.size) ∧ Below w.heap.size w ((w.alloc (.cells #[.slice x.ga x.gn x.gc, .int .i64 x.sc, .slice (some ⟨x.lb, 0, none⟩) x.n x.n, .slice (some ⟨x.ab, 0, none⟩) x.n x.n] 37)).alloc (.cells q.cells 31)) := by
  have b1 := boxed w (.cells #[.slice x.ga x.gn x.gc, .int .i64 x.sc, .slice (some ⟨x.lb, 0, none⟩) x.n x.n, .slice (some ⟨x.ab, 0, none⟩) x.n x.n] 37)
  have h1 := BoxX.new w x w.heap.size (Nat.le_refl _) 37
  have s1 : (w.alloc (.cells #[.slice x.ga x.gn x.gc, .int .i64 x.sc, .slice (some ⟨x.lb, 0, none⟩) x.n x.n, .slice (some ⟨x.ab, 0, none⟩) x.n x.n] 37)).heap.size = w.heap.size + 1 := World.size_alloc _ _
  obtain ⟨w1, hw1⟩ : ∃ w1, w.alloc (.cells #[.slice x.ga x.gn x.gc, .int .i64 x.sc, .slice (some ⟨x.lb, 0, none⟩) x.n x.n, .slice (some ⟨x.ab, 0, none⟩) x.n x.n] 37) = w1 := ⟨_, rfl⟩
  rw [hw1] at b1 h1 s1 ⊢
  have b2 := boxed w1 (.cells q.cells 31)
  have h2 := BoxPt.new w1 q w.heap.size b1.size
  rw [s1] at h2
  exact ⟨(h.add (next b1 b2) ((h1.next b2).and h2)).mono fun W hW => ⟨hW.2.1, hW.2.2⟩, next b1 b2⟩

set_option maxHeartbeats 8000000 in
theorem walk_HealLook (v : Value) (l : List (Int × Int)) (sc : Int) (p : Ptr) (s : ByteArray) (aH : Option Addr) (nH cH : Nat) (w : World) (h : Meas w v l sc) (hx : p.Ok) (hs : s.size ≤ maxLen) (hH : ∃ f, Hits w aH nH f) :
    Calls Tryz.prog 6 #[v, p.val, .string s, .slice aH nH cH] w fun e w' => e = .returned (.bool true) ∧ Below w.heap.size w w' := by
  obtain ⟨fH, hH⟩ := hH
  obtain ⟨a, gn, gc, rfl, hg⟩ := id h
  have K1 := Lib.hid (GP.start p h)
  have HX := Lib.hid hx
  have HSL := Lib.hid hs
  have HHH := Lib.hid hH
  have hnH := hH.1
  unfold maxLen at hnH
  clear h hx hs hH hg
  simp only [Ptr.val]
  unfold Ptr.cells at K1 ⊢
  go_enter Tryz.func6, Tryz.ntmps6
  go_wp2_with fail
  refine (awake10 _).mono ?_
  rintro e w1 ⟨rfl, c1⟩
  have K2 := Lib.hid (K1.out.next c1)
  clear c1 K1
  by_cases hn30 : nH ≤ 30
  case neg =>
    have d1 : decide (30 < (nH : Int)) = true := by rw [decide_eq_true_iff]; omega
    have HF := Lib.hid K2.out.h.below
    clear hn30
    go_wp2_with fail
    refine (awake10 _).mono ?_
    rintro e w2 ⟨rfl, c2⟩
    go_wp2
    go_ret
    exact ⟨rfl, next HF.out c2⟩
  have d1 : decide (30 < (nH : Int)) = false := by rw [decide_eq_false_iff_not]; omega
  obtain ⟨⟨k0, k1, _⟩, ⟨p0, p1, p2, p3, p4, p5, p6, p7, p8, p9, p10, p11, plt⟩⟩ := (⟨⟨K2.out.h.c0, K2.out.h.c1, trivial⟩, K2.out.x⟩ : (_ ∧ _ ∧ True) ∧ Box _ _ _)
  clear plt
  by_cases hgo : laidB l sc p s = true
  case neg =>
    have hgo' : laidB l sc p s = false := by simpa using hgo
    have HLD := Lib.hid (laid_no _ l sc p s none none 0 0 0 0 w1 K2.out.h.m HX.out HSL.out hgo')
    clear hgo hgo'
    unfold Ptr.val Ptr.cells at HLD
    go_wp2_with fail
    refine HLD.out.mono ?_
    rintro e w2 ⟨vx, q, rfl, hX, c2⟩
    have HF := Lib.hid (next K2.out.h.below c2)
    clear HLD c2
    rcases hX with rfl | ⟨x, l', ds', aw', K', rfl, _⟩
    · unfold noDevs
      go_wp2
      go_ret
      exact ⟨rfl, next (next HF.out (boxed _ _)) (boxed _ _)⟩
    · unfold Px.val
      go_wp2
      go_ret
      exact ⟨rfl, next (next HF.out (boxed _ _)) (boxed _ _)⟩
  have HLD := Lib.hid (laid_ok _ l sc p s none none 0 0 0 0 (fun _ => false) (fun _ => false) w1 K2.out.h.m HX.out HSL.out (Bl.nil _ _) (Bl.nil _ _) hgo)
  clear hgo
  obtain ⟨q, hq⟩ : ∃ q, lqP p s = q := ⟨_, rfl⟩
  rw [hq] at HLD
  have HQS : Hid (q.q = sumB s) := Lib.hid (by rw [← hq]; rfl)
  clear hq
  simp only [Ptr.val, Ptr.cells] at HLD
  go_wp2_with fail
  refine HLD.out.mono ?_
  rintro e w2 ⟨x, hv, z, rfl, rfl, hpr, hsz, h2, c2⟩
  unfold Px.val
  obtain ⟨hx3, b3⟩ := boxesXQ h2 q
  have HPR := Lib.hid hpr
  have HSZ := Lib.hid hsz
  have HC3 := Lib.hid (next c2 b3)
  have HB3 := Lib.hid (next K2.out.h.below HC3.out)
  unfold Ptr.cells at hx3 HC3 HB3
  have hz1 := K2.out.h.below.size
  clear h2 c2 b3 hpr hsz HLD k0 k1 p0 p1 p2 p3 p4 p5 p6 p7 p8 p9 p10 p11
  have hlo : ∀ i, i < x.n → (loS 0 (fun _ => false) (wpS l x.sc q z s (nP p)) x.n i).lost = false := fun i _ => by
    unfold loS saysB
    simp [wpS_lost]
  rw [awTo_none] at hx3
  generalize loS 0 (fun _ => false) (wpS l x.sc q z s (nP p)) x.n = ds0 at hx3 hlo
  have HLO := Lib.hid hlo
  have HS3 := Lib.hid hx3
  clear hx3 hlo
  obtain ⟨_, h32⟩ := HS3.out.right.1.devs HS3.out.right.2
  go_wp2_with fail
  obtain ⟨bx, hbx⟩ : ∃ bx, w2.heap.size = bx := ⟨_, rfl⟩
  obtain ⟨w3, hw3⟩ : ∃ w3, (w2.alloc (.cells #[.slice x.ga x.gn x.gc, .int .i64 x.sc, .slice (some ⟨x.lb, 0, none⟩) x.n x.n, .slice (some ⟨x.ab, 0, none⟩) x.n x.n] 37)).alloc (.cells #[.int .i64 q.ag, .int .i64 q.aa, .int .i64 q.bg, .int .i64 q.ba, .bool q.two, .int .i64 q.sz, .int .i64 q.lv, .int .i64 q.bi, .int .u64 q.q.a, .int .u64 q.q.b, .int .u64 q.q.c, .int .u64 q.q.d] 31) = w3 := ⟨_, rfl⟩
  rw [hw3] at HS3 HC3 HB3 ⊢
  rw [hbx] at HS3 ⊢
  clear hw3 hbx
  have hfin0 := HS3.out.out
  go_loopw [13] (fun iv wr => ∃ j : Nat, j ≤ x.n ∧ iv = .int .i64 j ∧ St w1.heap.size wr x l (fluS ds0 j) (fun _ => false) 64 (XQ x q bx) ∧ Below w1.heap.size w3 wr) (fun iv _ => x.n - (intOf iv).toNat)
  case atStart => exact ⟨0, Nat.zero_le _, rfl, by rw [fluS_zero]; exact HS3.out, Below.refl _ _⟩
  case round =>
    obtain ⟨j, hj, rfl, hst, hbw⟩ := hrel
    rename World => wr
    have HS := Lib.hid hst
    have HBW := Lib.hid hbw
    clear hst hbw
    obtain ⟨⟨x0, x1, x2, x3⟩, _⟩ := HS.out.out
    by_cases hlt : j < x.n
    · obtain ⟨bp, cb, hfl⟩ := fl_any HS.out hlt (by rw [fluS_lost]; exact HLO.out j hlt) (by omega)
      have HFL := Lib.hid (hfl wr (Below.refl _ _))
      have cb' : wr.cell? ⟨x.lb, j, none⟩ = some (.pointer (some ⟨bp, 0, none⟩)) := cb
      have dd2 : decide ((j : Int) < (x.n : Int)) = true := by simpa using hlt
      clear hfl cb hfin0
      go_wp2_with fail
      refine HFL.out.mono ?_
      rintro e w9 ⟨rfl, h9, b9, _, _⟩
      have HS9 := Lib.hid h9
      have HB9 := Lib.hid (HBW.out.trans b9)
      clear h9 b9 x0 x1 x2 x3
      go_wp2
      go_roundw
      case rel => exact ⟨j + 1, by omega, by go_num, by have := HS9.out; rw [fluS_next] at this; exact this, HB9.out⟩
      case measure => simp [intOf]; omega
    · obtain rfl : j = x.n := by omega
      have hnc0 : NoneC x.n (fluS ds0 x.n) := fluS_none HLO.out
      obtain ⟨dsA, hdsA⟩ : ∃ dsA, fluS ds0 x.n = dsA := ⟨_, rfl⟩
      have hsA := HS.out
      rw [hdsA] at hsA hnc0
      have HSA := Lib.hid hsA
      have HNA := Lib.hid hnc0
      have HBA := Lib.hid HBW.out
      have dd2 : decide ((x.n : Int) < (x.n : Int)) = false := by simp
      clear hsA hnc0 hdsA HS HBW HLO HS3 hfin0 hj
      go_wp2_with fail
      clear dd2 hlt
      go_loopw [14] (fun iv wr => ∃ j : Nat, j ≤ nH ∧ iv = .int .i64 j ∧ (∃ ds, St w1.heap.size wr x l ds (fun _ => false) 64 (XQ x q bx) ∧ NoneC x.n ds) ∧ Below w1.heap.size w3 wr) (fun iv _ => nH - (intOf iv).toNat)
      case atStart => exact ⟨0, Nat.zero_le _, rfl, ⟨_, HSA.out, HNA.out⟩, HBA.out⟩
      case round =>
        clear x0 x1 x2 x3 HSA HNA HBA
        obtain ⟨j, hj, rfl, ⟨ds, hst, hnc⟩, hbw⟩ := hrel
        rename World => wr
        have HS := Lib.hid hst
        have HBW := Lib.hid hbw
        have HBr := Lib.hid (HB3.out.trans (hbw.mono hz1))
        have HNC := Lib.hid hnc
        clear hst hbw hnc
        by_cases hlt : j < nH
        · obtain ⟨gH, oH, rfl, hit⟩ := HHH.out.2 j hlt
          generalize fH j = hh at hit
          obtain ⟨hd, ha, hp, hby⟩ := hh
          have HE : Hid (∀ W, Below w.heap.size w W → (W.cell? ⟨gH, oH + j * 4, none⟩ = some (.int .i64 hd) ∧ W.cell? ⟨gH, oH + j * 4 + 1, none⟩ = some (.int .i64 ha) ∧ W.cell? ⟨gH, oH + j * 4 + 2, none⟩ = some (.int .i64 hp) ∧ W.cell? ⟨gH, oH + j * 4 + 3, none⟩ = some (.int .u8 (hby.toNat : Int)))) := Lib.hid fun W hb =>
            ⟨(hb.cell (p := ⟨gH, oH + j * 4, none⟩) hit.lt).trans hit.c0, (hb.cell (p := ⟨gH, oH + j * 4 + 1, none⟩) hit.lt).trans hit.c1, (hb.cell (p := ⟨gH, oH + j * 4 + 2, none⟩) hit.lt).trans hit.c2, (hb.cell (p := ⟨gH, oH + j * 4 + 3, none⟩) hit.lt).trans hit.c3⟩
          obtain ⟨e0, e1, e2, e3⟩ := HE.out wr HBr.out
          clear hit
          obtain ⟨⟨x0, x1, x2, x3⟩, _⟩ := HS.out.out
          have q1 : (j : Int) < (nH : Int) := by omega
          have q2 : (0 : Int) ≤ (j : Int) := by omega
          by_cases hr : 0 ≤ hd ∧ hd < (x.n : Int)
          · obtain ⟨hr0, hr1⟩ := hr
            obtain ⟨dn, rfl⟩ := Int.eq_ofNat_of_zero_le hr0
            have hdn : dn < x.n := by omega
            obtain ⟨bp, cb, hsp⟩ := spoil8_any (HS.out.below (Below.refl _ wr).drew) hdn ha hp hby
            have HSP := Lib.hid (hsp wr.drew (Below.refl _ _))
            have cb' : wr.cell? ⟨x.lb, dn, none⟩ = some (.pointer (some ⟨bp, 0, none⟩)) := cb
            have dd1 : decide ((0 : Int) ≤ (dn : Int)) = true := by simp
            have dd2 : decide ((dn : Int) < (x.n : Int)) = true := by simpa using hdn
            clear hsp cb hdn
            go_wp2_with fail
            go_region_held3 (fun W => W.cell? ⟨bx, 1, none⟩ = some (.int .i64 x.sc) ∧ W.cell? ⟨bx, 2, none⟩ = some (.slice (some ⟨x.lb, 0, none⟩) x.n x.n) ∧ W.cell? ⟨x.lb, dn, none⟩ = some (.pointer (some ⟨bp, 0, none⟩)) ∧ W.cell? ⟨gH, oH + j * 4 + 1, none⟩ = some (.int .i64 ha) ∧ W.cell? ⟨gH, oH + j * 4 + 2, none⟩ = some (.int .i64 hp) ∧ W.cell? ⟨gH, oH + j * 4 + 3, none⟩ = some (.int .u8 (hby.toNat : Int)))
              (first | exact ⟨x1, x2, cb', e1, e2, e3⟩ | exact ⟨y1, y2, y3, y4, y5, y6⟩)
              (first | (go_at_call 10; refine HSP.out.mono ?_; rintro e w9 ⟨v9, rfl, h9, b9, l9⟩; have HS9 := Lib.hid h9; have HB9 := Lib.hid ((HBW.out.trans ((Below.refl _ wr).drew.mono HS.out.lt.2)).trans b9); have HBr9 := Lib.hid (HB3.out.trans (HB9.out.mono hz1)); obtain ⟨⟨_, y1, y2, _⟩, _⟩ := h9.out; have y3 := (World.cell?_of_block (w := wr.drew) (a := ⟨x.lb, dn, none⟩) l9).trans cb'; obtain ⟨_, y4, y5, y6⟩ := HE.out w9 HBr9.out; clear h9 b9 l9))
            go_wp2
            go_roundw
            case rel => exact ⟨j + 1, by omega, by go_num, ⟨_, HS9.out, HNC.out.spoil dn ha hp hby⟩, HB9.out⟩
            case measure => simp [intOf]; omega
          · have HNR := Lib.hid hr
            by_cases hr0 : 0 ≤ hd
            · have dd1 : decide ((0 : Int) ≤ hd) = true := by simpa using hr0
              have dd2 : decide (hd < (x.n : Int)) = false := by rw [decide_eq_false_iff_not]; exact fun h => hr ⟨hr0, h⟩
              clear hr
              go_wp2
              go_roundw
              case rel => exact ⟨j + 1, by omega, by go_num, ⟨_, HS.out, HNC.out⟩, HBW.out⟩
              case measure => simp [intOf]; omega
            · have dd1 : decide ((0 : Int) ≤ hd) = false := by simpa using hr0
              clear hr
              go_wp2
              go_roundw
              case rel => exact ⟨j + 1, by omega, by go_num, ⟨_, HS.out, HNC.out⟩, HBW.out⟩
              case measure => simp [intOf]; omega
        · obtain rfl : j = nH := by omega
          obtain ⟨⟨x0, x1, x2, x3⟩, ⟨p0, p1, p2, p3, p4, p5, p6, p7, p8, p9, p10, p11, _⟩⟩ := HS.out.out
          have HLK := look_ok HS.out HPR.out
          obtain ⟨vl, hvl⟩ : ∃ vl, lookV q.q (TT l x.sc q z (RW ds (fun _ => false) l q z)) (RW ds (fun _ => false) l q z) (nP q) = vl := ⟨_, rfl⟩
          rw [hvl] at HLK
          have HLK' := Lib.hid HLK
          have HWH : Hid (∀ W, St w1.heap.size W x l ds (fun _ => false) 64 (XQ x q bx) → Calls Tryz.prog 18 #[x.val, q.val] W fun e w' => ∃ b, e = .returned (.bool b) ∧ Below W.heap.size W w') := Lib.hid fun W hW => by
            cases hr : lookTo q.q (TT l x.sc q z (RW ds (fun _ => false) l q z)) (nP q) with
            | none => exact (whole_no hW HPR.out hr).mono fun e w' ⟨h1, h2⟩ => ⟨_, h1, h2⟩
            | some r => exact (whole_ok hW HPR.out hr _ rfl).mono fun e w' ⟨h1, h2⟩ => ⟨_, h1, h2⟩
          unfold Ptr.val Ptr.cells Px.val at HLK' HWH
          clear HLK hvl HHH
          go_wp2_with fail
          refine HLK'.out.mono ?_
          rintro e w5 ⟨rfl, c5⟩
          have HS5 := Lib.hid (HS.out.below c5)
          have HB5 := Lib.hid (next HBr.out c5)
          clear x0 x1 x2 x3 p0 p1 p2 p3 p4 p5 p6 p7 p8 p9 p10 p11 c5 HLK' HS
          obtain ⟨⟨x0, x1, x2, x3⟩, ⟨p0, p1, p2, p3, p4, p5, p6, p7, p8, p9, p10, p11, _⟩⟩ := HS5.out.out
          go_wp2_with fail
          refine (HWH.out _ HS5.out).mono ?_
          rintro e w6 ⟨bw, rfl, c6⟩
          have HS6 := Lib.hid (HS5.out.below c6)
          have HB6 := Lib.hid (next HB5.out c6)
          clear x0 x1 x2 x3 p0 p1 p2 p3 p4 p5 p6 p7 p8 p9 p10 p11 c6 HWH HS5 HB5 HBr HBW
          go_wp2_with fail
          go_loopw [16] (fun iv wr => ∃ j : Nat, j ≤ x.n ∧ iv = .int .i64 j ∧ Below w6.heap.size w6 wr) (fun iv _ => x.n - (intOf iv).toNat)
          case atStart => exact ⟨0, Nat.zero_le _, rfl, Below.refl _ _⟩
          case round =>
            obtain ⟨j, hj, rfl, hbw⟩ := hrel
            rename World => wc
            have HSC := Lib.hid (HS6.out.below hbw)
            have HBC := Lib.hid hbw
            clear hbw
            obtain ⟨⟨x0, x1, x2, x3⟩, ⟨p0, p1, p2, p3, p4, p5, p6, p7, p8, p9, p10, p11, _⟩⟩ := HSC.out.out
            by_cases hlt : j < x.n
            · obtain ⟨bp, cb, hca⟩ := cached8 HSC.out HNC.out (by omega) hlt
              have HCA := Lib.hid (hca wc (Below.refl _ _))
              have dd2 : decide ((j : Int) < (x.n : Int)) = true := by simpa using hlt
              clear hca p0 p1 p2 p3 p4 p5 p6 p7 p8 p9 p10 p11
              go_wp2_with fail
              refine HCA.out.mono ?_
              rintro e w9 ⟨ac, cc, rfl, b9⟩
              clear x0 x1 x2 x3 cb
              go_wp2
              go_roundw
              case rel => exact ⟨j + 1, by omega, by go_num, next HBC.out b9⟩
              case measure => simp [intOf]; omega
            · obtain rfl : j = x.n := by omega
              have dd2 : decide ((x.n : Int) < (x.n : Int)) = false := by simp
              have HBr := Lib.hid (next HB6.out HBC.out)
              clear HBC HB6 HS6 HNC
              obtain ⟨r, hr⟩ : ∃ r, lookTo q.q (TT l x.sc q z (RW ds (fun _ => false) l q z)) (nP q) = r := ⟨_, rfl⟩
              cases r with
              | none =>
                obtain ⟨er, her⟩ : ∃ er, errV (RW ds (fun _ => false) l q z) (nP q) = er := ⟨_, rfl⟩
                have hne := (errV_ne (RW ds (fun _ => false) l q z) (nP q)).1
                have hne2 := (errV_ne (RW ds (fun _ => false) l q z) (nP q)).2.1
                rw [her] at hne hne2
                have HRD : Hid (∀ W (P : World → Prop), St w1.heap.size W x l ds (fun _ => false) 64 P → Calls Tryz.prog 12 #[x.val, q.val] W fun e w' => e = .returned (.tuple #[noCame, .int .i64 er]) ∧ Below W.heap.size W w') := Lib.hid fun W P hW => by
                  have := hread_no hW HPR.out hr
                  rw [her] at this
                  exact this
                unfold Ptr.val Ptr.cells Px.val noCame at HRD
                clear hr her
                go_wp2_with fail
                refine (HRD.out _ _ HSC.out).mono ?_
                rintro e w7 ⟨rfl, c7⟩
                have h8 := (HSC.out.below c7).add (boxed w7 (.cells #[.string ⟨#[]⟩, .int .i64 0, .int .i64 0, .int .i64 0] 45)) (CameC.new w7 ⟨#[]⟩ 0 0 0 _ (Nat.le_refl _))
                have HS8 := Lib.hid h8
                have HB8 := Lib.hid (next (next HBr.out c7) (boxed w7 (.cells #[.string ⟨#[]⟩, .int .i64 0, .int .i64 0, .int .i64 0] 45)))
                clear x0 x1 x2 x3 p0 p1 p2 p3 p4 p5 p6 p7 p8 p9 p10 p11 c7 h8
                obtain ⟨⟨⟨x0, x1, x2, x3⟩, ⟨p0, p1, p2, p3, p4, p5, p6, p7, p8, p9, p10, p11, _⟩⟩, _⟩ := HS8.out.out
                go_wp2_with fail
                refine (HRD.out _ _ HS8.out).mono ?_
                rintro e w9 ⟨rfl, c9⟩
                have h10 := (HS8.out.below c9).add (boxed w9 (.cells #[.string ⟨#[]⟩, .int .i64 0, .int .i64 0, .int .i64 0] 45)) (CameC.new w9 ⟨#[]⟩ 0 0 0 _ (Nat.le_refl _))
                have HB10 := Lib.hid (next (next HB8.out c9) (boxed w9 (.cells #[.string ⟨#[]⟩, .int .i64 0, .int .i64 0, .int .i64 0] 45)))
                clear x0 x1 x2 x3 p0 p1 p2 p3 p4 p5 p6 p7 p8 p9 p10 p11 c9 HRD
                obtain ⟨⟨_, ⟨a0, a1, _, _, _, _, _, _⟩⟩, ⟨b0, _, _, b3, _, _, _, _⟩⟩ := h10.out
                clear h10
                have hee : (er == er) = true := beq_self_eq_true _
                go_wp2
                go_ret
                exact ⟨rfl, HB10.out⟩
              | some r =>
                obtain ⟨i, d, t⟩ := r
                obtain ⟨hin, hhit, _⟩ := lookTo_some hr
                have hts : t.size = z * 64 := (HSC.out.calls HPR.out).sz i hin (d, t) (hitQ_some hhit).1
                obtain ⟨i2, d2, hf2, h20⟩ := HPR.out.twice HSC.out.right.2 (HSC.out.rawP HPR.out) hr hts
                have hi2 : i < 2 := by have := nP_le q; omega
                have HRD : Hid (∀ W (P : World → Prop), St w1.heap.size W x l ds (fun _ => false) 64 P → Calls Tryz.prog 12 #[x.val, q.val] W fun e w' => ∃ N1 : Int, e = .returned (.tuple #[.agg #[.string t, .int .i64 (i : Int), .int .i64 d, .int .i64 N1], .int .i64 0]) ∧ St w1.heap.size w' x l (readS l (fun _ => false) q z t ds i) (fun _ => false) 128 P ∧ Below w1.heap.size W w') := Lib.hid fun W P hW =>
                  (hread_ok hW HPR.out hr (by omega)).mono fun e w' ⟨h1, h2, h3⟩ => ⟨_, h1, h2, h3⟩
                have HRE : Hid (∀ W (P : World → Prop), St w1.heap.size W x l (readS l (fun _ => false) q z t ds i) (fun _ => false) 128 P → Calls Tryz.prog 12 #[x.val, q.val] W fun e w' => ∃ N2 : Int, e = .returned (.tuple #[.agg #[.string t, .int .i64 (i2 : Int), .int .i64 d2, .int .i64 N2], .int .i64 0]) ∧ (∃ ds', St w1.heap.size w' x l ds' (fun _ => false) (128 + 64) P) ∧ Below w1.heap.size W w' ∧ (N2 = 0 ∨ 0 < i)) := Lib.hid fun W P hW =>
                  (hread_ok hW HPR.out hf2 (by omega)).mono fun e w' ⟨h1, h2, h3⟩ => ⟨_, h1, ⟨_, h2⟩, h3, by omega⟩
                unfold Ptr.val Ptr.cells Px.val at HRD HRE
                clear hr hin hhit hts hf2 h20
                go_wp2_with fail
                refine (HRD.out _ _ HSC.out).mono ?_
                rintro e w7 ⟨N1, rfl, h7, c7⟩
                have h8 := h7.add (boxed w7 (.cells #[.string t, .int .i64 (i : Int), .int .i64 d, .int .i64 N1] 45)) (CameC.new w7 t (i : Int) d N1 _ (Nat.le_refl _))
                have HS8 := Lib.hid h8
                have HB8 := Lib.hid (next (HBr.out.trans (c7.mono hz1)) (boxed w7 (.cells #[.string t, .int .i64 (i : Int), .int .i64 d, .int .i64 N1] 45)))
                clear x0 x1 x2 x3 p0 p1 p2 p3 p4 p5 p6 p7 p8 p9 p10 p11 c7 h7 h8 HRD
                obtain ⟨⟨⟨x0, x1, x2, x3⟩, ⟨p0, p1, p2, p3, p4, p5, p6, p7, p8, p9, p10, p11, _⟩⟩, _⟩ := HS8.out.out
                go_wp2_with fail
                refine (HRE.out _ _ HS8.out).mono ?_
                rintro e w9 ⟨N2, rfl, ⟨d9, h9⟩, c9, hN⟩
                have h10 := h9.add (boxed w9 (.cells #[.string t, .int .i64 (i2 : Int), .int .i64 d2, .int .i64 N2] 45)) (CameC.new w9 t (i2 : Int) d2 N2 _ (Nat.le_refl _))
                have HB10 := Lib.hid (next (HB8.out.trans (c9.mono hz1)) (boxed w9 (.cells #[.string t, .int .i64 (i2 : Int), .int .i64 d2, .int .i64 N2] 45)))
                clear x0 x1 x2 x3 p0 p1 p2 p3 p4 p5 p6 p7 p8 p9 p10 p11 c9 HRE h9
                obtain ⟨⟨_, ⟨a0, a1, _, _, _, _, _, _⟩⟩, ⟨b0, _, _, b3, _, _, _, _⟩⟩ := h10.out
                clear h10
                have htt : (t.toList == t.toList) = true := beq_self_eq_true _
                by_cases hN0 : N2 = 0
                · subst hN0
                  clear hN
                  go_wp2
                  go_ret
                  exact ⟨rfl, HB10.out⟩
                · have hb3 : (N2 == 0) = false := by simpa using hN0
                  have ha1 : decide ((0 : Int) < (i : Int)) = true := by rw [decide_eq_true_iff]; omega
                  have HI0 : Hid (0 < i) := Lib.hid (by omega)
                  clear hN hN0
                  go_wp2
                  go_ret
                  refine ⟨?_, HB10.out⟩
                  have hi0 := HI0.out
                  simp
                  omega
end Go.Proofs.YtiffkbmcikiioaaGreat
