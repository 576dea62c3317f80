/-
  The walk of polderlaw10.HealTwo: it returns true, and writes nothing that was there.
-/
import Derived.Test.YtiffkbmcikiioaaGreatY49
import Derived.Test.YtiffkbmcikiioaaGreatY50
import Derived.Test.YtiffkbmcikiioaaGreatY47
import Derived.Test.YtiffkbmcikiioaaGreatY06
import Derived.Test.YtiffkbmcikiioaaGreatHw
import Derived.Test.YtiffkbmcikiioaaGreatHx
import Derived.Test.YtiffkbmcikiioaaGreatHza
import Derived.Test.YtiffkbmcikiioaaGreatY11
namespace Go.Proofs.YtiffkbmcikiioaaGreat
set_option maxRecDepth 100000
open Go.RowKit Go.Shelf Go.Maps M

/-- Devices and a pointer in boxes. -/
structure XQ (x : Px) (q : Ptr) (b : Nat) (w : World) : Prop where
  x : BoxX x b w
  q : Box w (b + 1) q
theorem boxesXQ {B : Nat} {w : World} {x : Px} {l : List (Int × Int)} {ds : Nat → Dv} {aw : Nat → Bool} {K : Nat} {P : World → Prop} (h : St B w x l ds aw K P) (q : Ptr) :
    St B ((w.alloc (.cells #[.slice x.ga x.gn x.gc, .int .i64 x.sc, .slice (some ⟨x.lb, 0, none⟩) x.n x.n, .slice (some ⟨x.ab, 0, none⟩) x.n x.n] 37)).alloc (.cells q.cells 31)) x l ds aw K (XQ x q w.heap.size) ∧ Below w.heap.size w ((w.alloc (.cells #[.slice x.ga x.gn x.gc, .int .i64 x.sc, .slice (some ⟨x.lb, 0, none⟩) x.n x.n, .slice (some ⟨x.ab, 0, none⟩) x.n x.n] 37)).alloc (.cells q.cells 31)) := by
  have b1 := boxed w (.cells #[.slice x.ga x.gn x.gc, .int .i64 x.sc, .slice (some ⟨x.lb, 0, none⟩) x.n x.n, .slice (some ⟨x.ab, 0, none⟩) x.n x.n] 37)
  have h1 := BoxX.new w x w.heap.size (Nat.le_refl _) 37
  have s1 : (w.alloc (.cells #[.slice x.ga x.gn x.gc, .int .i64 x.sc, .slice (some ⟨x.lb, 0, none⟩) x.n x.n, .slice (some ⟨x.ab, 0, none⟩) x.n x.n] 37)).heap.size = w.heap.size + 1 := World.size_alloc _ _
  obtain ⟨w1, hw1⟩ : ∃ w1, w.alloc (.cells #[.slice x.ga x.gn x.gc, .int .i64 x.sc, .slice (some ⟨x.lb, 0, none⟩) x.n x.n, .slice (some ⟨x.ab, 0, none⟩) x.n x.n] 37) = w1 := ⟨_, rfl⟩
  rw [hw1] at b1 h1 s1 ⊢
  have b2 := boxed w1 (.cells q.cells 31)
  have h2 := BoxPt.new w1 q w.heap.size b1.size
  rw [s1] at h2
  exact ⟨(h.add (next b1 b2) ((h1.next b2).and h2)).mono fun W hW => ⟨hW.2.1, hW.2.2⟩, next b1 b2⟩

theorem str_ne {t s : ByteArray} (h : ¬ t = s) : (t.toList == s.toList) = false := by
  rw [beq_eq_false_iff_ne]
  intro e
  rw [ByteArray.toList_eq, ByteArray.toList_eq] at e
  exact h (ByteArray.ext (Array.toList_inj.1 e))
theorem u8_of {n : Int} (h : (Lit.int .u8 n).wf = true) : ∃ c : UInt8, n = (c.toNat : Int) := by
  obtain ⟨h0, h1⟩ := bounds_u8 h
  refine ⟨UInt8.ofNat n.toNat, ?_⟩
  rw [UInt8.toNat_ofNat_of_lt' (by simp [UInt8.size]; omega)]
  omega
set_option maxHeartbeats 8000000 in
theorem walk_HealTwo (v : Value) (l : List (Int × Int)) (sc : Int) (p : Ptr) (s : ByteArray) (first : Bool) (by_ : Int) (w : World) (h : Meas w v l sc) (hx : p.Ok) (hs : s.size ≤ maxLen) (hby : (Lit.int .u8 by_).wf = true) :
    Calls Tryz.prog 7 #[v, p.val, .string s, .bool first, .int .u8 by_] w fun e w' => e = .returned (.bool true) ∧ Below w.heap.size w w' := by
  obtain ⟨a, gn, gc, rfl, hg⟩ := id h
  have K1 := Lib.hid (GP.start p h)
  have HX := Lib.hid hx
  have HSL := Lib.hid hs
  clear h hx hs hg
  simp only [Ptr.val]
  unfold Ptr.cells at K1 ⊢
  go_enter Tryz.func7, Tryz.ntmps7
  go_wp2_with fail
  refine (awake10 _).mono ?_
  rintro e w1 ⟨rfl, c1⟩
  have K2 := Lib.hid (K1.out.next c1)
  clear c1 K1
  obtain ⟨c, rfl⟩ := u8_of hby
  clear hby
  by_cases hc : c = 0
  case pos =>
    subst hc
    have HF := Lib.hid K2.out.h.below
    have d1 : (((0 : UInt8).toNat : Int) == 0) = true := rfl
    go_wp2_with fail
    refine (awake10 _).mono ?_
    rintro e w2 ⟨rfl, c2⟩
    go_wp2
    go_ret
    exact ⟨rfl, next HF.out c2⟩
  have d1 : ((c.toNat : Int) == 0) = false := by
    have : c.toNat ≠ 0 := fun e => hc (UInt8.toNat_inj.1 e)
    simpa using this
  obtain ⟨⟨k0, k1, _⟩, ⟨p0, p1, p2, p3, p4, p5, p6, p7, p8, p9, p10, p11, plt⟩⟩ := (⟨⟨K2.out.h.c0, K2.out.h.c1, trivial⟩, K2.out.x⟩ : (_ ∧ _ ∧ True) ∧ Box _ _ _)
  clear plt
  by_cases hgo : laidB l sc p s = true
  case neg =>
    have hgo' : laidB l sc p s = false := by simpa using hgo
    have HLD := Lib.hid (laid_no _ l sc p s none none 0 0 0 0 w1 K2.out.h.m HX.out HSL.out hgo')
    clear hgo hgo'
    unfold Ptr.val Ptr.cells at HLD
    go_wp2_with fail
    refine HLD.out.mono ?_
    rintro e w2 ⟨vx, q, rfl, hX, c2⟩
    have HF := Lib.hid (next K2.out.h.below c2)
    clear HLD c2
    rcases hX with rfl | ⟨x, l', ds', aw', K', rfl, _⟩
    · unfold noDevs
      go_wp2
      go_ret
      exact ⟨rfl, next (next HF.out (boxed _ _)) (boxed _ _)⟩
    · unfold Px.val
      go_wp2
      go_ret
      exact ⟨rfl, next (next HF.out (boxed _ _)) (boxed _ _)⟩
  have HLD := Lib.hid (laid_ok _ l sc p s none none 0 0 0 0 (fun _ => false) (fun _ => false) w1 K2.out.h.m HX.out HSL.out (Bl.nil _ _) (Bl.nil _ _) hgo)
  clear hgo
  obtain ⟨q, hq⟩ : ∃ q, lqP p s = q := ⟨_, rfl⟩
  rw [hq] at HLD
  have HQS : Hid (q.q = sumB s) := Lib.hid (by rw [← hq]; rfl)
  have HNP : Hid (nP p = nP q) := Lib.hid (by rw [← hq]; rfl)
  clear hq
  simp only [Ptr.val, Ptr.cells] at HLD
  go_wp2_with fail
  refine HLD.out.mono ?_
  rintro e w2 ⟨x, hv, z, rfl, rfl, hpr, hsz, h2, c2⟩
  unfold Px.val
  obtain ⟨hx3, b3⟩ := boxesXQ h2 q
  have HPR := Lib.hid hpr
  have HSZ := Lib.hid hsz
  have HC3 := Lib.hid (next c2 b3)
  have HB3 := Lib.hid (next K2.out.h.below HC3.out)
  unfold Ptr.cells at hx3 HC3 HB3
  have hz1 := K2.out.h.below.size
  clear h2 c2 b3 hpr hsz HLD k0 k1 p0 p1 p2 p3 p4 p5 p6 p7 p8 p9 p10 p11
  rw [awTo_none] at hx3
  have hD0 : loS 0 (fun _ => false) (wpS l x.sc q z s (nP p)) x.n = wpS l x.sc q z s (nP q) := by
    rw [HNP.out]
    funext i
    unfold loS saysB
    simp
  rw [hD0] at hx3
  clear hD0
  have hlo : ∀ i, (wpS l x.sc q z s (nP q) i).lost = false := fun i => wpS_lost _ _ _ _ _ _ _
  have hrw : ∀ j, j < nP q → RW (wpS l x.sc q z s (nP q)) (fun _ => false) l q z j = EE l q z s j := fun j hj => HPR.out.wps hx3.right.2 s _ (Nat.le_refl _) j hj
  generalize wpS l x.sc q z s (nP q) = ds0 at hx3 hlo hrw
  have hhe : ∀ i, hereB ds0 (fun _ => false) i = true := fun i => by
    unfold hereB
    rw [hlo i]
    rfl
  have HRW := Lib.hid hrw
  have HHE := Lib.hid hhe
  clear hrw hhe
  have HLO := Lib.hid hlo
  have HS3 := Lib.hid hx3
  clear hx3 hlo
  have HGD : Hid (∀ i, i < x.n → ((ds0 i).med.length : Int) = x.sc) := Lib.hid fun i hi => (HS3.out.good hi).len
  obtain ⟨_, h32⟩ := HS3.out.right.1.devs HS3.out.right.2
  obtain ⟨bx, hbx⟩ : ∃ bx, w2.heap.size = bx := ⟨_, rfl⟩
  go_upto_region 4 with (fail)
  obtain ⟨w3, hw3⟩ : ∃ w3, (w2.alloc (.cells #[.slice x.ga x.gn x.gc, .int .i64 x.sc, .slice (some ⟨x.lb, 0, none⟩) x.n x.n, .slice (some ⟨x.ab, 0, none⟩) x.n x.n] 37)).alloc (.cells #[.int .i64 q.ag, .int .i64 q.aa, .int .i64 q.bg, .int .i64 q.ba, .bool q.two, .int .i64 q.sz, .int .i64 q.lv, .int .i64 q.bi, .int .u64 q.q.a, .int .u64 q.q.b, .int .u64 q.q.c, .int .u64 q.q.d] 31) = w3 := ⟨_, rfl⟩
  rw [hw3] at HS3 HC3 HB3 ⊢
  rw [hbx] at HS3
  clear hw3 hbx
  have hx4 := K2.out.next HC3.out
  have HM3 := Lib.hid hx4.h.m
  obtain ⟨k0, k1⟩ := (⟨hx4.h.c0, hx4.h.c1⟩ : _ ∧ _)
  obtain ⟨⟨x0, x1, x2, x3⟩, ⟨p0, p1, p2, p3, p4, p5, p6, p7, p8, p9, p10, p11, _⟩⟩ := HS3.out.out
  clear hx4 HC3
  cases h2 : q.two with
  | false =>
    rw [h2] at p4
    have HF := Lib.hid HB3.out
    go_wp2
    go_ret
    exact ⟨rfl, HF.out⟩
  | true =>
  rw [h2] at p4
  have HTWO := Lib.hid h2
  have hn2 : nP q = 2 := by unfold nP; rw [h2]; rfl
  have HN2 := Lib.hid hn2
  clear h2
  cases first with
  | false =>
  have hJ : 1 < nP q := by omega
  have hat := (HPR.out.blk 1 hJ).1
  have hag : q.bg = (kN q 1 : Int) := congrArg Prod.fst hat
  have haa : q.ba = (tN q 1 : Int) := congrArg Prod.snd hat
  have HRF : Hid (∀ W, Meas W (.agg #[.slice a gn gc, .int .i64 x.sc]) l x.sc → Calls Tryz.prog 23 #[.agg #[.slice a gn gc, .int .i64 x.sc], .agg #[.int .i64 q.bg, .int .i64 q.ba], .int .i64 q.sz] W fun e w' => ∃ v', e = .returned v' ∧ OwnC W.heap.size w' v' (LL l q z 1) ∧ Below W.heap.size W w') := Lib.hid fun W hW => by
    have C := refOf_any l x.sc _ W hW (kN q 1) (tN q 1) z (HPR.out.blk 1 hJ).2
    rw [← hag, ← haa, ← HPR.out.sz] at C
    exact C
  have hposC : 0 < (LL l q z 1).length := ((HPR.out.blk 1 hJ).2.puts HSZ.out HS3.out.right.2).pos
  have hC32 : (LL l q z 1).length ≤ 32 := ((HPR.out.blk 1 hJ).2.puts HSZ.out HS3.out.right.2).few
  have HSPT := Lib.hid (HPR.out.spots HS3.out.right.2 HSZ.out (fun i _ => HLO.out i) HGD.out hJ)
  have HCOL : Hid (∀ j (hj : j < (LL l q z 1).length), (LL l q z 1)[j].dev = (devN (LL l q z 1) j : Int) ∧ (LL l q z 1)[j].at_ = (atN (LL l q z 1) j : Int)) := Lib.hid ((HPR.out.blk 1 hJ).2.cols)
  have HTW := Lib.hid (HPR.out.two HS3.out.right.2 HSZ.out HQS.out HTWO.out HLO.out HGD.out HHE.out HRW.out hc (j0 := 1) (by omega) rfl)
  clear hJ hat hag haa
  go_upto_region 9 with (fail)
  obtain ⟨w4, hw4⟩ : ∃ w4, w3.alloc (.cells #[.int .i64 q.bg, .int .i64 q.ba] 26) = w4 := ⟨_, rfl⟩
  obtain ⟨y0, y1⟩ := new_pair w3 (.int .i64 q.bg) (.int .i64 q.ba) 26
  have b34 := boxed w3 (.cells #[.int .i64 q.bg, .int .i64 q.ba] 26)
  rw [hw4] at y0 y1 b34 ⊢
  clear hw4
  have k0' := (b34.cell (p := ⟨w.heap.size, 0, none⟩) (World.block_lt_of_cell? w3 _ k0)).trans k0
  have k1' := (b34.cell (p := ⟨w.heap.size, 1, none⟩) (World.block_lt_of_cell? w3 _ k1)).trans k1
  have p5' := (b34.cell (p := ⟨bx + 1, 5, none⟩) (World.block_lt_of_cell? w3 _ p5)).trans p5
  have HB34 := Lib.hid b34
  clear k0 k1 p0 p1 p2 p3 p4 p5 p6 p7 p8 p9 p10 p11 x0 x1 x2 x3 b34
  obtain ⟨bp, hbp⟩ : ∃ bp, w3.heap.size = bp := ⟨_, rfl⟩
  rw [hbp] at y0 y1 ⊢
  clear hbp
  go_wp2_with fail
  refine (HRF.out _ (HM3.out.below HB34.out)).mono ?_
  rintro e w5 ⟨v5, rfl, hO, c5⟩
  obtain ⟨gC, cC, rfl, hcC, _, _⟩ := hO.some hposC
  have h5 := (HS3.out.below HB34.out).add c5 (New.cols hO)
  have HB5 := Lib.hid ((next HB34.out c5).mono HS3.out.lt.2)
  obtain ⟨L, hL⟩ : ∃ L, LL l q z 1 = L := ⟨_, rfl⟩
  rw [hL] at h5 hposC hC32 HCOL HTW HSPT hcC ⊢
  obtain ⟨nC, hnC⟩ : ∃ nC, L.length = nC := ⟨_, rfl⟩
  rw [hnC] at h5 hposC hC32 HTW hcC ⊢
  obtain ⟨B5, hB5⟩ : ∃ B5, w4.heap.size = B5 := ⟨_, rfl⟩
  rw [hB5] at h5
  have HS5 := Lib.hid h5
  have HNC := Lib.hid hnC
  clear hO c5 k0' k1' p5' y0 y1 HRF HM3 h5 hL hnC hB5 HB34
  go_wp2_with fail
  go_loopw [17] (fun iv wr => ∃ m : Nat, m ≤ nC ∧ iv = .int .i64 m ∧ St w1.heap.size wr x l (spTo L c ds0 m) (fun _ => false) 64 (fun W => XQ x q bx W ∧ OwnC B5 W (.slice (some ⟨gC, 0, none⟩) nC cC) L) ∧ Below w1.heap.size w3 wr) (fun iv _ => nC - (intOf iv).toNat)
  case atStart => exact ⟨0, Nat.zero_le _, rfl, HS5.out, HB5.out⟩
  case round =>
    obtain ⟨m, hm, rfl, hst, hbw⟩ := hrel
    rename World => wr
    have HS := Lib.hid hst
    have HBW := Lib.hid hbw
    clear hst hbw HS5 HB5
    by_cases hlt : m < nC
    · have hmL : m < L.length := by rw [HNC.out]; exact hlt
      obtain ⟨hdn, _⟩ := HSPT.out m hmL
      obtain ⟨hcd, hca⟩ := HCOL.out m hmL
      obtain ⟨⟨⟨x0, x1, x2, x3⟩, _⟩, hOC⟩ := HS.out.out
      have hIC := ownC_in hOC m hmL
      have e0 := hIC.c0
      have e1 := hIC.c1
      clear hIC
      rw [hcd] at e0
      rw [hca] at e1
      obtain ⟨bp2, cb, hsp⟩ := spoil8_any (HS.out.below (Below.refl _ wr).drew) hdn (atN L m : Int) (m : Int) c
      have HSP : Hid (Calls Tryz.prog 10 #[.pointer (some ⟨bp2, 0, none⟩), .int .i64 (atN L m : Int), .int .i64 (m : Int), .int .u8 (c.toNat : Int)] wr.drew fun e w' =>
        ∃ v, e = .returned (.bool v) ∧ St w1.heap.size w' x l (spTo L c ds0 (m + 1)) (fun _ => false) 64 (fun W => XQ x q bx W ∧ OwnC B5 W (.slice (some ⟨gC, 0, none⟩) nC cC) L) ∧ Below w1.heap.size wr.drew w' ∧ w'.heap[x.lb]? = wr.drew.heap[x.lb]?) := Lib.hid (hsp wr.drew (Below.refl _ _))
      have cb' : wr.cell? ⟨x.lb, devN L m, none⟩ = some (.pointer (some ⟨bp2, 0, none⟩)) := cb
      have HCD : Hid (∀ W, OwnC B5 W (.slice (some ⟨gC, 0, none⟩) nC cC) L → W.cell? ⟨gC, m * 4, none⟩ = some (.int .i64 (devN L m : Int)) ∧ W.cell? ⟨gC, m * 4 + 1, none⟩ = some (.int .i64 (atN L m : Int))) := Lib.hid fun W hW => by
        have hIC := ownC_in hW m hmL
        have u0 := hIC.c0
        have u1 := hIC.c1
        rw [hcd] at u0
        rw [hca] at u1
        exact ⟨u0, u1⟩
      clear hsp cb hcd hca hmL hOC x0 x3
      generalize devN L m = dn at *
      generalize atN L m = an at *
      have q1 : (m : Int) < (nC : Int) := by omega
      have q2 : (0 : Int) ≤ (m : Int) := by omega
      have q3 : (dn : Int) < (x.n : Int) := by omega
      have q4 : (0 : Int) ≤ (dn : Int) := by omega
      have dd2 : decide ((m : Int) < (nC : Int)) = true := by simpa using hlt
      go_wp2_with fail
      go_region_held3 (fun W => W.cell? ⟨bx, 1, none⟩ = some (.int .i64 x.sc) ∧ W.cell? ⟨bx, 2, none⟩ = some (.slice (some ⟨x.lb, 0, none⟩) x.n x.n) ∧ W.cell? ⟨x.lb, dn, none⟩ = some (.pointer (some ⟨bp2, 0, none⟩)) ∧ W.cell? ⟨gC, m * 4, none⟩ = some (.int .i64 (dn : Int)) ∧ W.cell? ⟨gC, m * 4 + 1, none⟩ = some (.int .i64 (an : Int)))
        (first | exact ⟨x1, x2, cb', e0, e1⟩ | exact ⟨z1, z2, z3, z4, z5⟩)
        (first | (go_at_call 10; refine HSP.out.mono ?_; rintro e w9 ⟨v9, rfl, h9, b9, l9⟩; have HS9 := Lib.hid h9; have HB9 := Lib.hid ((HBW.out.trans ((Below.refl _ wr).drew.mono HS.out.lt.2)).trans b9); obtain ⟨⟨⟨_, z1, z2, _⟩, _⟩, hO9⟩ := h9.out; obtain ⟨z4, z5⟩ := HCD.out w9 hO9; have z3 := (World.cell?_of_block (w := wr.drew) (a := ⟨x.lb, dn, none⟩) l9).trans cb'; clear h9 b9 l9 hO9))
      go_wp2
      go_roundw
      case rel => exact ⟨m + 1, by omega, by go_num, HS9.out, HB9.out⟩
      case measure => simp [intOf]; omega
    · obtain rfl : nC = m := by omega
      obtain ⟨ds1, hds1⟩ : ∃ ds1, spTo L c ds0 nC = ds1 := ⟨_, rfl⟩
      have hS1 := HS.out
      have hTW := HTW.out
      rw [hds1] at hS1 hTW
      obtain ⟨⟨i, dd, t, hf, hsum⟩, hu0, hu1, hh1⟩ := hTW
      have HS1 := Lib.hid hS1
      have HBr := Lib.hid (HB3.out.trans (HBW.out.mono hz1))
      obtain ⟨hin, hhit, _⟩ := lookTo_some hf
      have hts : t.size = z * 64 := (HS1.out.calls HPR.out).sz i hin (dd, t) (hitQ_some hhit).1
      have hz4 := (HPR.out.blk 0 (nP_pos _)).2.z4
      have HLK := look_ok HS1.out HPR.out
      rw [lookV_some hf] at HLK
      have HLK' := Lib.hid HLK
      unfold Ptr.val Ptr.cells Px.val at HLK'
      have dd2 : decide ((nC : Int) < (nC : Int)) = false := by simp
      have HHF := Lib.hid hf
      have HSUM := Lib.hid hsum
      have HU0 := Lib.hid hu0
      have HU1 := Lib.hid hu1
      have HH1 := Lib.hid hh1
      have HIN := Lib.hid hin
      have HTS := Lib.hid hts
      obtain ⟨⟨⟨x0, x1, x2, x3⟩, ⟨p0, p1, p2, p3, p4, p5, p6, p7, p8, p9, p10, p11, _⟩⟩, _⟩ := HS1.out.out
      clear HLK hf hsum hu0 hu1 hh1 hin hhit hS1 hds1 HS HBW HTW HSPT HCOL HRW HHE HLO HGD HS3 HB3
      go_wp2_with fail
      refine HLK'.out.mono ?_
      rintro e w6 ⟨rfl, c6⟩
      have h7 := (HS1.out.below c6).add (boxed w6 (.cells #[.string t, .int .i64 (i : Int), .int .i64 dd, .int .i64 0] 45)) (CameC.new w6 t (i : Int) dd 0 _ (Nat.le_refl _))
      have HS7 := Lib.hid h7
      have HB7 := Lib.hid (next (next HBr.out c6) (boxed w6 (.cells #[.string t, .int .i64 (i : Int), .int .i64 dd, .int .i64 0] 45)))
      clear x0 x1 x2 x3 p0 p1 p2 p3 p4 p5 p6 p7 p8 p9 p10 p11 c6 h7 HLK'
      obtain ⟨⟨⟨⟨x0, x1, x2, x3⟩, ⟨p0, p1, p2, p3, p4, p5, p6, p7, p8, p9, p10, p11, _⟩⟩, _⟩, ⟨a0, _, _, _, _, _, _, _⟩⟩ := HS7.out.out
      by_cases ht : t = s
      · subst ht
        have hN : scN l (fun _ => false) q z t ds1 i (nP q) = nC := by
          rw [HPR.out.scrubbed HS7.out.right.2 t HIN.out, HTWO.out, if_pos rfl]
          have u0 := HU0.out
          have u1 := HU1.out
          simp only [Nat.sub_self] at u1
          omega
        have hSC := hscrub_ok HS7.out HPR.out HHF.out (by omega)
        rw [hN] at hSC
        obtain ⟨ds2, hds2⟩ : ∃ ds2, scS l (fun _ => false) q z t ds1 i (nP q) = ds2 := ⟨_, rfl⟩
        obtain ⟨_, ⟨i2, d2, hf2⟩, hfine⟩ := HPR.out.healed HS7.out.right.2 HSZ.out HQS.out HH1.out i hds2.symm
        rw [hds2] at hSC
        have HSC := Lib.hid hSC
        have HWH : Hid (∀ W (P : World → Prop), St w1.heap.size W x l ds2 (fun _ => false) (64 + 128) P → Calls Tryz.prog 18 #[x.val, q.val] W fun e w' => e = .returned (.bool true) ∧ Below W.heap.size W w') := Lib.hid fun W P hW => whole_ok hW HPR.out hf2 true hfine
        unfold Ptr.val Ptr.cells Px.val at HSC HWH
        have htt : (t.toList == t.toList) = true := beq_self_eq_true _
        have htn : (t.toList != t.toList) = false := by unfold bne; rw [htt]; rfl
        clear hSC hds2 hf2 hfine hN
        go_wp2_with fail
        refine HSC.out.mono ?_
        rintro e w8 ⟨rfl, h8, c8⟩
        have h9 := h8.add (boxed w8 (.cells #[.string t, .int .i64 (i : Int), .int .i64 dd, .int .i64 (nC : Int)] 45)) (CameC.new w8 t (i : Int) dd (nC : Int) _ (Nat.le_refl _))
        have HS9 := Lib.hid h9
        have HB9 := Lib.hid (next (HB7.out.trans (c8.mono hz1)) (boxed w8 (.cells #[.string t, .int .i64 (i : Int), .int .i64 dd, .int .i64 (nC : Int)] 45)))
        clear x0 x1 x2 x3 p0 p1 p2 p3 p4 p5 p6 p7 p8 p9 p10 p11 a0 c8 h8 h9 HSC
        obtain ⟨⟨⟨⟨⟨x0, x1, x2, x3⟩, ⟨p0, p1, p2, p3, p4, p5, p6, p7, p8, p9, p10, p11, _⟩⟩, _⟩, _⟩, ⟨b0, _, _, b3, _, _, _, _⟩⟩ := HS9.out.out
        have hcc : ((nC : Int) == (nC : Int)) = true := beq_self_eq_true _
        go_wp2_with fail
        refine (HWH.out _ _ HS9.out).mono ?_
        rintro e w10 ⟨rfl, c10⟩
        have HB10 := Lib.hid (next HB9.out c10)
        clear x0 x1 x2 x3 p0 p1 p2 p3 p4 p5 p6 p7 p8 p9 p10 p11 b0 b3 c10
        go_wp2
        go_ret
        exact ⟨rfl, HB10.out⟩
      · have hne : (t.toList == s.toList) = false := str_ne ht
        have hnn : (t.toList != s.toList) = true := by unfold bne; rw [hne]; rfl
        have HSM := Lib.hid (fun W => sum_any t W (by omega))
        have HSM2 := Lib.hid (fun W => sum_any s W (by have := HSZ.out; omega))
        have hqe : sumQ zeroQ (wordsB t) = sumQ zeroQ (wordsB s) := HSUM.out
        rw [hqe] at HSM
        generalize sumQ zeroQ (wordsB s) = Q0 at HSM HSM2
        have he4 : eq4 (Q0.a : Int) Q0.b Q0.c Q0.d Q0.a Q0.b Q0.c Q0.d = true := eq4_true rfl rfl rfl rfl
        have hgg := sum_guard
        have hqq := sum_equal
        clear hqe ht
        go_wp2_with fail
        refine (HSM.out _).mono ?_
        rintro e w8 ⟨rfl, c8⟩
        have HB8 := Lib.hid (next HB7.out c8)
        clear x0 x1 x2 x3 p0 p1 p2 p3 p4 p5 p6 p7 p8 p9 p10 p11 a0 c8
        go_wp2_with fail
        refine (HSM2.out _).mono ?_
        rintro e w9 ⟨rfl, c9⟩
        have HB9 := Lib.hid (next HB8.out c9)
        clear c9
        go_wp2
        go_ret
        exact ⟨rfl, HB9.out⟩
  | true =>
  have hJ : 0 < nP q := by omega
  have hat := (HPR.out.blk 0 hJ).1
  have hag : q.ag = (kN q 0 : Int) := congrArg Prod.fst hat
  have haa : q.aa = (tN q 0 : Int) := congrArg Prod.snd hat
  have HRF : Hid (∀ W, Meas W (.agg #[.slice a gn gc, .int .i64 x.sc]) l x.sc → Calls Tryz.prog 23 #[.agg #[.slice a gn gc, .int .i64 x.sc], .agg #[.int .i64 q.ag, .int .i64 q.aa], .int .i64 q.sz] W fun e w' => ∃ v', e = .returned v' ∧ OwnC W.heap.size w' v' (LL l q z 0) ∧ Below W.heap.size W w') := Lib.hid fun W hW => by
    have C := refOf_any l x.sc _ W hW (kN q 0) (tN q 0) z (HPR.out.blk 0 hJ).2
    rw [← hag, ← haa, ← HPR.out.sz] at C
    exact C
  have hposC : 0 < (LL l q z 0).length := ((HPR.out.blk 0 hJ).2.puts HSZ.out HS3.out.right.2).pos
  have hC32 : (LL l q z 0).length ≤ 32 := ((HPR.out.blk 0 hJ).2.puts HSZ.out HS3.out.right.2).few
  have HSPT := Lib.hid (HPR.out.spots HS3.out.right.2 HSZ.out (fun i _ => HLO.out i) HGD.out hJ)
  have HCOL : Hid (∀ j (hj : j < (LL l q z 0).length), (LL l q z 0)[j].dev = (devN (LL l q z 0) j : Int) ∧ (LL l q z 0)[j].at_ = (atN (LL l q z 0) j : Int)) := Lib.hid ((HPR.out.blk 0 hJ).2.cols)
  have HTW := Lib.hid (HPR.out.two HS3.out.right.2 HSZ.out HQS.out HTWO.out HLO.out HGD.out HHE.out HRW.out hc (j0 := 0) (by omega) rfl)
  clear hJ hat hag haa
  go_upto_region 9 with (fail)
  obtain ⟨w4, hw4⟩ : ∃ w4, w3.alloc (.cells #[.int .i64 q.ag, .int .i64 q.aa] 26) = w4 := ⟨_, rfl⟩
  obtain ⟨y0, y1⟩ := new_pair w3 (.int .i64 q.ag) (.int .i64 q.aa) 26
  have b34 := boxed w3 (.cells #[.int .i64 q.ag, .int .i64 q.aa] 26)
  rw [hw4] at y0 y1 b34 ⊢
  clear hw4
  have k0' := (b34.cell (p := ⟨w.heap.size, 0, none⟩) (World.block_lt_of_cell? w3 _ k0)).trans k0
  have k1' := (b34.cell (p := ⟨w.heap.size, 1, none⟩) (World.block_lt_of_cell? w3 _ k1)).trans k1
  have p5' := (b34.cell (p := ⟨bx + 1, 5, none⟩) (World.block_lt_of_cell? w3 _ p5)).trans p5
  have HB34 := Lib.hid b34
  clear k0 k1 p0 p1 p2 p3 p4 p5 p6 p7 p8 p9 p10 p11 x0 x1 x2 x3 b34
  obtain ⟨bp, hbp⟩ : ∃ bp, w3.heap.size = bp := ⟨_, rfl⟩
  rw [hbp] at y0 y1 ⊢
  clear hbp
  go_wp2_with fail
  refine (HRF.out _ (HM3.out.below HB34.out)).mono ?_
  rintro e w5 ⟨v5, rfl, hO, c5⟩
  obtain ⟨gC, cC, rfl, hcC, _, _⟩ := hO.some hposC
  have h5 := (HS3.out.below HB34.out).add c5 (New.cols hO)
  have HB5 := Lib.hid ((next HB34.out c5).mono HS3.out.lt.2)
  obtain ⟨L, hL⟩ : ∃ L, LL l q z 0 = L := ⟨_, rfl⟩
  rw [hL] at h5 hposC hC32 HCOL HTW HSPT hcC ⊢
  obtain ⟨nC, hnC⟩ : ∃ nC, L.length = nC := ⟨_, rfl⟩
  rw [hnC] at h5 hposC hC32 HTW hcC ⊢
  obtain ⟨B5, hB5⟩ : ∃ B5, w4.heap.size = B5 := ⟨_, rfl⟩
  rw [hB5] at h5
  have HS5 := Lib.hid h5
  have HNC := Lib.hid hnC
  clear hO c5 k0' k1' p5' y0 y1 HRF HM3 h5 hL hnC hB5 HB34
  go_wp2_with fail
  go_loopw [17] (fun iv wr => ∃ m : Nat, m ≤ nC ∧ iv = .int .i64 m ∧ St w1.heap.size wr x l (spTo L c ds0 m) (fun _ => false) 64 (fun W => XQ x q bx W ∧ OwnC B5 W (.slice (some ⟨gC, 0, none⟩) nC cC) L) ∧ Below w1.heap.size w3 wr) (fun iv _ => nC - (intOf iv).toNat)
  case atStart => exact ⟨0, Nat.zero_le _, rfl, HS5.out, HB5.out⟩
  case round =>
    obtain ⟨m, hm, rfl, hst, hbw⟩ := hrel
    rename World => wr
    have HS := Lib.hid hst
    have HBW := Lib.hid hbw
    clear hst hbw HS5 HB5
    by_cases hlt : m < nC
    · have hmL : m < L.length := by rw [HNC.out]; exact hlt
      obtain ⟨hdn, _⟩ := HSPT.out m hmL
      obtain ⟨hcd, hca⟩ := HCOL.out m hmL
      obtain ⟨⟨⟨x0, x1, x2, x3⟩, _⟩, hOC⟩ := HS.out.out
      have hIC := ownC_in hOC m hmL
      have e0 := hIC.c0
      have e1 := hIC.c1
      clear hIC
      rw [hcd] at e0
      rw [hca] at e1
      obtain ⟨bp2, cb, hsp⟩ := spoil8_any (HS.out.below (Below.refl _ wr).drew) hdn (atN L m : Int) (m : Int) c
      have HSP : Hid (Calls Tryz.prog 10 #[.pointer (some ⟨bp2, 0, none⟩), .int .i64 (atN L m : Int), .int .i64 (m : Int), .int .u8 (c.toNat : Int)] wr.drew fun e w' =>
        ∃ v, e = .returned (.bool v) ∧ St w1.heap.size w' x l (spTo L c ds0 (m + 1)) (fun _ => false) 64 (fun W => XQ x q bx W ∧ OwnC B5 W (.slice (some ⟨gC, 0, none⟩) nC cC) L) ∧ Below w1.heap.size wr.drew w' ∧ w'.heap[x.lb]? = wr.drew.heap[x.lb]?) := Lib.hid (hsp wr.drew (Below.refl _ _))
      have cb' : wr.cell? ⟨x.lb, devN L m, none⟩ = some (.pointer (some ⟨bp2, 0, none⟩)) := cb
      have HCD : Hid (∀ W, OwnC B5 W (.slice (some ⟨gC, 0, none⟩) nC cC) L → W.cell? ⟨gC, m * 4, none⟩ = some (.int .i64 (devN L m : Int)) ∧ W.cell? ⟨gC, m * 4 + 1, none⟩ = some (.int .i64 (atN L m : Int))) := Lib.hid fun W hW => by
        have hIC := ownC_in hW m hmL
        have u0 := hIC.c0
        have u1 := hIC.c1
        rw [hcd] at u0
        rw [hca] at u1
        exact ⟨u0, u1⟩
      clear hsp cb hcd hca hmL hOC x0 x3
      generalize devN L m = dn at *
      generalize atN L m = an at *
      have q1 : (m : Int) < (nC : Int) := by omega
      have q2 : (0 : Int) ≤ (m : Int) := by omega
      have q3 : (dn : Int) < (x.n : Int) := by omega
      have q4 : (0 : Int) ≤ (dn : Int) := by omega
      have dd2 : decide ((m : Int) < (nC : Int)) = true := by simpa using hlt
      go_wp2_with fail
      go_region_held3 (fun W => W.cell? ⟨bx, 1, none⟩ = some (.int .i64 x.sc) ∧ W.cell? ⟨bx, 2, none⟩ = some (.slice (some ⟨x.lb, 0, none⟩) x.n x.n) ∧ W.cell? ⟨x.lb, dn, none⟩ = some (.pointer (some ⟨bp2, 0, none⟩)) ∧ W.cell? ⟨gC, m * 4, none⟩ = some (.int .i64 (dn : Int)) ∧ W.cell? ⟨gC, m * 4 + 1, none⟩ = some (.int .i64 (an : Int)))
        (first | exact ⟨x1, x2, cb', e0, e1⟩ | exact ⟨z1, z2, z3, z4, z5⟩)
        (first | (go_at_call 10; refine HSP.out.mono ?_; rintro e w9 ⟨v9, rfl, h9, b9, l9⟩; have HS9 := Lib.hid h9; have HB9 := Lib.hid ((HBW.out.trans ((Below.refl _ wr).drew.mono HS.out.lt.2)).trans b9); obtain ⟨⟨⟨_, z1, z2, _⟩, _⟩, hO9⟩ := h9.out; obtain ⟨z4, z5⟩ := HCD.out w9 hO9; have z3 := (World.cell?_of_block (w := wr.drew) (a := ⟨x.lb, dn, none⟩) l9).trans cb'; clear h9 b9 l9 hO9))
      go_wp2
      go_roundw
      case rel => exact ⟨m + 1, by omega, by go_num, HS9.out, HB9.out⟩
      case measure => simp [intOf]; omega
    · obtain rfl : nC = m := by omega
      obtain ⟨ds1, hds1⟩ : ∃ ds1, spTo L c ds0 nC = ds1 := ⟨_, rfl⟩
      have hS1 := HS.out
      have hTW := HTW.out
      rw [hds1] at hS1 hTW
      obtain ⟨⟨i, dd, t, hf, hsum⟩, hu0, hu1, hh1⟩ := hTW
      have HS1 := Lib.hid hS1
      have HBr := Lib.hid (HB3.out.trans (HBW.out.mono hz1))
      obtain ⟨hin, hhit, _⟩ := lookTo_some hf
      have hts : t.size = z * 64 := (HS1.out.calls HPR.out).sz i hin (dd, t) (hitQ_some hhit).1
      have hz4 := (HPR.out.blk 0 (nP_pos _)).2.z4
      have HLK := look_ok HS1.out HPR.out
      rw [lookV_some hf] at HLK
      have HLK' := Lib.hid HLK
      unfold Ptr.val Ptr.cells Px.val at HLK'
      have dd2 : decide ((nC : Int) < (nC : Int)) = false := by simp
      have HHF := Lib.hid hf
      have HSUM := Lib.hid hsum
      have HU0 := Lib.hid hu0
      have HU1 := Lib.hid hu1
      have HH1 := Lib.hid hh1
      have HIN := Lib.hid hin
      have HTS := Lib.hid hts
      obtain ⟨⟨⟨x0, x1, x2, x3⟩, ⟨p0, p1, p2, p3, p4, p5, p6, p7, p8, p9, p10, p11, _⟩⟩, _⟩ := HS1.out.out
      clear HLK hf hsum hu0 hu1 hh1 hin hhit hS1 hds1 HS HBW HTW HSPT HCOL HRW HHE HLO HGD HS3 HB3
      go_wp2_with fail
      refine HLK'.out.mono ?_
      rintro e w6 ⟨rfl, c6⟩
      have h7 := (HS1.out.below c6).add (boxed w6 (.cells #[.string t, .int .i64 (i : Int), .int .i64 dd, .int .i64 0] 45)) (CameC.new w6 t (i : Int) dd 0 _ (Nat.le_refl _))
      have HS7 := Lib.hid h7
      have HB7 := Lib.hid (next (next HBr.out c6) (boxed w6 (.cells #[.string t, .int .i64 (i : Int), .int .i64 dd, .int .i64 0] 45)))
      clear x0 x1 x2 x3 p0 p1 p2 p3 p4 p5 p6 p7 p8 p9 p10 p11 c6 h7 HLK'
      obtain ⟨⟨⟨⟨x0, x1, x2, x3⟩, ⟨p0, p1, p2, p3, p4, p5, p6, p7, p8, p9, p10, p11, _⟩⟩, _⟩, ⟨a0, _, _, _, _, _, _, _⟩⟩ := HS7.out.out
      by_cases ht : t = s
      · subst ht
        have hN : scN l (fun _ => false) q z t ds1 i (nP q) = nC := by
          rw [HPR.out.scrubbed HS7.out.right.2 t HIN.out, HTWO.out, if_pos rfl]
          have u0 := HU0.out
          have u1 := HU1.out
          simp only [Nat.sub_zero] at u1
          omega
        have hSC := hscrub_ok HS7.out HPR.out HHF.out (by omega)
        rw [hN] at hSC
        obtain ⟨ds2, hds2⟩ : ∃ ds2, scS l (fun _ => false) q z t ds1 i (nP q) = ds2 := ⟨_, rfl⟩
        obtain ⟨_, ⟨i2, d2, hf2⟩, hfine⟩ := HPR.out.healed HS7.out.right.2 HSZ.out HQS.out HH1.out i hds2.symm
        rw [hds2] at hSC
        have HSC := Lib.hid hSC
        have HWH : Hid (∀ W (P : World → Prop), St w1.heap.size W x l ds2 (fun _ => false) (64 + 128) P → Calls Tryz.prog 18 #[x.val, q.val] W fun e w' => e = .returned (.bool true) ∧ Below W.heap.size W w') := Lib.hid fun W P hW => whole_ok hW HPR.out hf2 true hfine
        unfold Ptr.val Ptr.cells Px.val at HSC HWH
        have htt : (t.toList == t.toList) = true := beq_self_eq_true _
        have htn : (t.toList != t.toList) = false := by unfold bne; rw [htt]; rfl
        clear hSC hds2 hf2 hfine hN
        go_wp2_with fail
        refine HSC.out.mono ?_
        rintro e w8 ⟨rfl, h8, c8⟩
        have h9 := h8.add (boxed w8 (.cells #[.string t, .int .i64 (i : Int), .int .i64 dd, .int .i64 (nC : Int)] 45)) (CameC.new w8 t (i : Int) dd (nC : Int) _ (Nat.le_refl _))
        have HS9 := Lib.hid h9
        have HB9 := Lib.hid (next (HB7.out.trans (c8.mono hz1)) (boxed w8 (.cells #[.string t, .int .i64 (i : Int), .int .i64 dd, .int .i64 (nC : Int)] 45)))
        clear x0 x1 x2 x3 p0 p1 p2 p3 p4 p5 p6 p7 p8 p9 p10 p11 a0 c8 h8 h9 HSC
        obtain ⟨⟨⟨⟨⟨x0, x1, x2, x3⟩, ⟨p0, p1, p2, p3, p4, p5, p6, p7, p8, p9, p10, p11, _⟩⟩, _⟩, _⟩, ⟨b0, _, _, b3, _, _, _, _⟩⟩ := HS9.out.out
        have hcc : ((nC : Int) == (nC : Int)) = true := beq_self_eq_true _
        go_wp2_with fail
        refine (HWH.out _ _ HS9.out).mono ?_
        rintro e w10 ⟨rfl, c10⟩
        have HB10 := Lib.hid (next HB9.out c10)
        clear x0 x1 x2 x3 p0 p1 p2 p3 p4 p5 p6 p7 p8 p9 p10 p11 b0 b3 c10
        go_wp2
        go_ret
        exact ⟨rfl, HB10.out⟩
      · have hne : (t.toList == s.toList) = false := str_ne ht
        have hnn : (t.toList != s.toList) = true := by unfold bne; rw [hne]; rfl
        have HSM := Lib.hid (fun W => sum_any t W (by omega))
        have HSM2 := Lib.hid (fun W => sum_any s W (by have := HSZ.out; omega))
        have hqe : sumQ zeroQ (wordsB t) = sumQ zeroQ (wordsB s) := HSUM.out
        rw [hqe] at HSM
        generalize sumQ zeroQ (wordsB s) = Q0 at HSM HSM2
        have he4 : eq4 (Q0.a : Int) Q0.b Q0.c Q0.d Q0.a Q0.b Q0.c Q0.d = true := eq4_true rfl rfl rfl rfl
        have hgg := sum_guard
        have hqq := sum_equal
        clear hqe ht
        go_wp2_with fail
        refine (HSM.out _).mono ?_
        rintro e w8 ⟨rfl, c8⟩
        have HB8 := Lib.hid (next HB7.out c8)
        clear x0 x1 x2 x3 p0 p1 p2 p3 p4 p5 p6 p7 p8 p9 p10 p11 a0 c8
        go_wp2_with fail
        refine (HSM2.out _).mono ?_
        rintro e w9 ⟨rfl, c9⟩
        have HB9 := Lib.hid (next HB8.out c9)
        clear c9
        go_wp2
        go_ret
        exact ⟨rfl, HB9.out⟩
end Go.Proofs.YtiffkbmcikiioaaGreat
