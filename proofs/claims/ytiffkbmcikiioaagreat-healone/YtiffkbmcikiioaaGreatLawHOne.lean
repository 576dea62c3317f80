/-
  The walk of polderlaw10.HealOne: it returns true, and writes nothing that was there.
-/
import Derived.Test.YtiffkbmcikiioaaGreatY49
import Derived.Test.YtiffkbmcikiioaaGreatY50
import Derived.Test.YtiffkbmcikiioaaGreatY47
import Derived.Test.YtiffkbmcikiioaaGreatY06
import Derived.Test.YtiffkbmcikiioaaGreatHw
import Derived.Test.YtiffkbmcikiioaaGreatHx
import Derived.Test.YtiffkbmcikiioaaGreatHza
import Derived.Test.YtiffkbmcikiioaaGreatY11
import Derived.Deep.DeepCutAuto
import Derived.Deep.CutBlock
namespace Go.Proofs.YtiffkbmcikiioaaGreat
set_option maxRecDepth 100000
open Go.RowKit Go.Shelf Go.Maps M

/-- Devices and a pointer in boxes. -/
structure XQ (x : Px) (q : Ptr) (b : Nat) (w : World) : Prop where
  x : BoxX x b w
  q : Box w (b + 1) q
theorem boxesXQ {B : Nat} {w : World} {x : Px} {l : List (Int × Int)} {ds : Nat → Dv} {aw : Nat → Bool} {K : Nat} {P : World → Prop} (h : St B w x l ds aw K P) (q : Ptr) :
    St B ((w.alloc (.cells #[.slice x.ga x.gn x.gc, .int .i64 x.sc, .slice (some ⟨x.lb, 0, none⟩) x.n x.n, .slice (some ⟨x.ab, 0, none⟩) x.n x.n] 37)).alloc (.cells q.cells 31)) x l ds aw K (XQ x q w.heap.size) ∧ Below w.heap.size w ((w.alloc (.cells #[.slice x.ga x.gn x.gc, .int .i64 x.sc, .slice (some ⟨x.lb, 0, none⟩) x.n x.n, .slice (some ⟨x.ab, 0, none⟩) x.n x.n] 37)).alloc (.cells q.cells 31)) := by
  have b1 := boxed w (.cells #[.slice x.ga x.gn x.gc, .int .i64 x.sc, .slice (some ⟨x.lb, 0, none⟩) x.n x.n, .slice (some ⟨x.ab, 0, none⟩) x.n x.n] 37)
  have h1 := BoxX.new w x w.heap.size (Nat.le_refl _) 37
  have s1 : (w.alloc (.cells #[.slice x.ga x.gn x.gc, .int .i64 x.sc, .slice (some ⟨x.lb, 0, none⟩) x.n x.n, .slice (some ⟨x.ab, 0, none⟩) x.n x.n] 37)).heap.size = w.heap.size + 1 := World.size_alloc _ _
  obtain ⟨w1, hw1⟩ : ∃ w1, w.alloc (.cells #[.slice x.ga x.gn x.gc, .int .i64 x.sc, .slice (some ⟨x.lb, 0, none⟩) x.n x.n, .slice (some ⟨x.ab, 0, none⟩) x.n x.n] 37) = w1 := ⟨_, rfl⟩
  rw [hw1] at b1 h1 s1 ⊢
  have b2 := boxed w1 (.cells q.cells 31)
  have h2 := BoxPt.new w1 q w.heap.size b1.size
  rw [s1] at h2
  exact ⟨(h.add (next b1 b2) ((h1.next b2).and h2)).mono fun W hW => ⟨hW.2.1, hW.2.2⟩, next b1 b2⟩

theorem str_ne {t s : ByteArray} (h : ¬ t = s) : (t.toList == s.toList) = false := by
  rw [beq_eq_false_iff_ne]
  intro e
  rw [ByteArray.toList_eq, ByteArray.toList_eq] at e
  exact h (ByteArray.ext (Array.toList_inj.1 e))
theorem u8_of {n : Int} (h : (Lit.int .u8 n).wf = true) : ∃ c : UInt8, n = (c.toNat : Int) := by
  obtain ⟨h0, h1⟩ := bounds_u8 h
  refine ⟨UInt8.ofNat n.toNat, ?_⟩
  rw [UInt8.toNat_ofNat_of_lt' (by simp [UInt8.size]; omega)]
  omega
set_option maxHeartbeats 8000000 in
theorem walk_HealOne (v : Value) (l : List (Int × Int)) (sc : Int) (p : Ptr) (s : ByteArray) (dv : Int) (aH : Option Addr) (nH cH : Nat) (hw_ : Int) (w : World) (h : Meas w v l sc) (hx : p.Ok) (hs : s.size ≤ maxLen) (hdv : (Lit.int .u8 dv).wf = true) (hH : ∃ f, Hits w aH nH f) (hhw : (Lit.int .u8 hw_).wf = true) :
    Calls Tryz.prog 4 #[v, p.val, .string s, .int .u8 dv, .slice aH nH cH, .int .u8 hw_] w fun e w' => e = .returned (.bool true) ∧ Below w.heap.size w w' := by
  obtain ⟨fH, hH⟩ := hH
  obtain ⟨a, gn, gc, rfl, hg⟩ := id h
  have K1 := Lib.hid (GP.start p h)
  have HX := Lib.hid hx
  have HSL := Lib.hid hs
  have HHH := Lib.hid hH
  have hnH := hH.1
  unfold maxLen at hnH
  clear h hx hs hH hg
  simp only [Ptr.val]
  unfold Ptr.cells at K1 ⊢
  go_enter Tryz.func4, Tryz.ntmps4
  go_wp2_with fail
  refine (awake10 _).mono ?_
  rintro e w1 ⟨rfl, c1⟩
  have K2 := Lib.hid (K1.out.next c1)
  clear c1 K1
  obtain ⟨cd, rfl⟩ := u8_of hdv
  obtain ⟨ch, rfl⟩ := u8_of hhw
  clear hdv hhw
  by_cases hn30 : nH ≤ 30
  case neg =>
    have d1 : decide (30 < (nH : Int)) = true := by rw [decide_eq_true_iff]; omega
    have HF := Lib.hid K2.out.h.below
    clear hn30
    go_wp2_with fail
    refine (awake10 _).mono ?_
    rintro e w2 ⟨rfl, c2⟩
    go_wp2
    go_ret
    exact ⟨rfl, next HF.out c2⟩
  have d1 : decide (30 < (nH : Int)) = false := by rw [decide_eq_false_iff_not]; omega
  obtain ⟨⟨k0, k1, _⟩, ⟨p0, p1, p2, p3, p4, p5, p6, p7, p8, p9, p10, p11, plt⟩⟩ := (⟨⟨K2.out.h.c0, K2.out.h.c1, trivial⟩, K2.out.x⟩ : (_ ∧ _ ∧ True) ∧ Box _ _ _)
  clear plt
  by_cases hgo : laidB l sc p s = true
  case neg =>
    have hgo' : laidB l sc p s = false := by simpa using hgo
    have HLD := Lib.hid (laid_no _ l sc p s none none 0 0 0 0 w1 K2.out.h.m HX.out HSL.out hgo')
    clear hgo hgo'
    unfold Ptr.val Ptr.cells at HLD
    go_wp2_with fail
    refine HLD.out.mono ?_
    rintro e w2 ⟨vx, q, rfl, hX, c2⟩
    have HF := Lib.hid (next K2.out.h.below c2)
    clear HLD c2
    rcases hX with rfl | ⟨x, l', ds', aw', K', rfl, _⟩
    · unfold noDevs
      go_wp2
      go_ret
      exact ⟨rfl, next (next HF.out (boxed _ _)) (boxed _ _)⟩
    · unfold Px.val
      go_wp2
      go_ret
      exact ⟨rfl, next (next HF.out (boxed _ _)) (boxed _ _)⟩
  have HLD := Lib.hid (laid_ok _ l sc p s none none 0 0 0 0 (fun _ => false) (fun _ => false) w1 K2.out.h.m HX.out HSL.out (Bl.nil _ _) (Bl.nil _ _) hgo)
  clear hgo
  obtain ⟨q, hq⟩ : ∃ q, lqP p s = q := ⟨_, rfl⟩
  rw [hq] at HLD
  have HQS : Hid (q.q = sumB s) := Lib.hid (by rw [← hq]; rfl)
  have HNP : Hid (nP p = nP q) := Lib.hid (by rw [← hq]; rfl)
  clear hq
  simp only [Ptr.val, Ptr.cells] at HLD
  go_wp2_with fail
  refine HLD.out.mono ?_
  rintro e w2 ⟨x, hv, z, rfl, rfl, hpr, hsz, h2, c2⟩
  unfold Px.val
  obtain ⟨hx3, b3⟩ := boxesXQ h2 q
  have HPR := Lib.hid hpr
  have HSZ := Lib.hid hsz
  have HC3 := Lib.hid (next c2 b3)
  have HB3 := Lib.hid (next K2.out.h.below HC3.out)
  unfold Ptr.cells at hx3 HC3 HB3
  have hz1 := K2.out.h.below.size
  clear h2 c2 b3 hpr hsz HLD k0 k1 p0 p1 p2 p3 p4 p5 p6 p7 p8 p9 p10 p11
  rw [awTo_none] at hx3
  have hD0 : loS 0 (fun _ => false) (wpS l x.sc q z s (nP p)) x.n = wpS l x.sc q z s (nP q) := by
    rw [HNP.out]
    funext i
    unfold loS saysB
    simp
  rw [hD0] at hx3
  clear hD0
  have hlo : ∀ i, (wpS l x.sc q z s (nP q) i).lost = false := fun i => wpS_lost _ _ _ _ _ _ _
  have hrw : ∀ j, j < nP q → RW (wpS l x.sc q z s (nP q)) (fun _ => false) l q z j = EE l q z s j := fun j hj => HPR.out.wps hx3.right.2 s _ (Nat.le_refl _) j hj
  generalize wpS l x.sc q z s (nP q) = ds0 at hx3 hlo hrw
  have hhe : ∀ i, hereB ds0 (fun _ => false) i = true := fun i => by
    unfold hereB
    rw [hlo i]
    rfl
  have HRW := Lib.hid hrw
  have HHE := Lib.hid hhe
  clear hrw hhe
  have HLO := Lib.hid hlo
  have HS3 := Lib.hid hx3
  clear hx3 hlo
  have HGD : Hid (∀ i, i < x.n → ((ds0 i).med.length : Int) = x.sc) := Lib.hid fun i hi => (HS3.out.good hi).len
  obtain ⟨_, h32⟩ := HS3.out.right.1.devs HS3.out.right.2
  obtain ⟨bx, hbx⟩ : ∃ bx, w2.heap.size = bx := ⟨_, rfl⟩
  go_upto_region 4 with (fail)
  obtain ⟨w3, hw3⟩ : ∃ w3, (w2.alloc (.cells #[.slice x.ga x.gn x.gc, .int .i64 x.sc, .slice (some ⟨x.lb, 0, none⟩) x.n x.n, .slice (some ⟨x.ab, 0, none⟩) x.n x.n] 37)).alloc (.cells #[.int .i64 q.ag, .int .i64 q.aa, .int .i64 q.bg, .int .i64 q.ba, .bool q.two, .int .i64 q.sz, .int .i64 q.lv, .int .i64 q.bi, .int .u64 q.q.a, .int .u64 q.q.b, .int .u64 q.q.c, .int .u64 q.q.d] 31) = w3 := ⟨_, rfl⟩
  rw [hw3] at HS3 HC3 HB3 ⊢
  rw [hbx] at HS3
  clear hw3 hbx
  have hx4 := K2.out.next HC3.out
  have HM3 := Lib.hid hx4.h.m
  obtain ⟨k0, k1⟩ := (⟨hx4.h.c0, hx4.h.c1⟩ : _ ∧ _)
  obtain ⟨⟨x0, x1, x2, x3⟩, ⟨p0, p1, p2, p3, p4, p5, p6, p7, p8, p9, p10, p11, _⟩⟩ := HS3.out.out
  clear hx4 HC3
  by_cases hn2 : x.n < 2
  · have dn2 : decide ((x.n : Int) < 2) = true := by rw [decide_eq_true_iff]; omega
    have HF := Lib.hid HB3.out
    go_wp2
    go_ret
    exact ⟨rfl, HF.out⟩
  have dn2 : decide ((x.n : Int) < 2) = false := by rw [decide_eq_false_iff_not]; omega
  obtain ⟨d, hd⟩ : ∃ d, cd.toNat % x.n = d := ⟨_, rfl⟩
  have hdn : d < x.n := by rw [← hd]; exact Nat.mod_lt _ (by omega)
  have hc255 : cd.toNat < 256 := cd.toNat_lt
  have qd : Int.tmod (cd.toNat : Int) (x.n : Int) = (d : Int) := by
    rw [Int.tmod_eq_emod_of_nonneg (by omega), ← hd]
    omega
  have qn0 : ¬ (x.n : Int) = 0 := by omega
  have qn1 : ((x.n : Int) == 0) = false := by simpa using qn0
  have qw1 : IntKind.i64.wrap (cd.toNat : Int) = (cd.toNat : Int) := by rw [IntKind.wrap_i64]; omega
  have qw2 : IntKind.i64.wrap (d : Int) = (d : Int) := by rw [IntKind.wrap_i64]; omega
  have HD := Lib.hid hd
  clear hd
  have hgl : l.length = gn := by
    obtain ⟨_, _, _, e, hg, _⟩ := HM3.out
    cases e
    exact hg.2.1
  have hg4 : gn ≤ 4 := by rw [← hgl]; exact HS3.out.right.1.few
  have hg0 : 0 < gn := by rw [← hgl]; exact HS3.out.right.1.pos
  have HGL := Lib.hid hgl
  have HK0 : Hid (∀ W, Below w3.heap.size w3 W → W.cell? ⟨w.heap.size, 0, none⟩ = some (.slice a gn gc) ∧ W.cell? ⟨w.heap.size, 1, none⟩ = some (.int .i64 x.sc)) := Lib.hid fun W hb =>
    ⟨(hb.cell (p := ⟨w.heap.size, 0, none⟩) (World.block_lt_of_cell? w3 _ k0)).trans k0, (hb.cell (p := ⟨w.heap.size, 1, none⟩) (World.block_lt_of_cell? w3 _ k1)).trans k1⟩
  clear hgl p0 p1 p2 p3 p4 p5 p6 p7 p8 p9 p10 p11
  go_wp2_with fail
  clear k0 k1 x0 x1 x2 x3
  go_loopw [18, 19] (fun tg iv wr => ∃ j : Nat, j ≤ gn ∧ tg = .int .i64 ((grpTo l d j : Nat) : Int) ∧ iv = .int .i64 (j : Int) ∧ Below w3.heap.size w3 wr) (fun _ iv _ => gn - (intOf iv).toNat)
  case atStart => exact ⟨0, Nat.zero_le _, rfl, rfl, Below.refl _ _⟩
  case round =>
    obtain ⟨j, hj, rfl, rfl, hbw⟩ := hrel
    rename World => wr
    have HBW := Lib.hid hbw
    obtain ⟨k0, k1⟩ := HK0.out wr hbw
    by_cases hlt : j < gn
    · obtain ⟨y, hy⟩ : ∃ y, aheadL l j = y := ⟨_, rfl⟩
      have HC := Lib.hid (refFirst_any l x.sc _ wr (HM3.out.below hbw) HS3.out.right.1 j (by rw [HGL.out]; omega) y hy)
      have HY := Lib.hid hy
      have dd2 : decide ((j : Int) < (gn : Int)) = true := by simpa using hlt
      obtain ⟨gj, hgj⟩ : ∃ gj, grpTo l d j = gj := ⟨_, rfl⟩
      have HGJ := Lib.hid hgj
      rw [hgj]
      clear hbw hy hgj
      go_wp2_with fail
      refine HC.out.mono ?_
      rintro e w9 ⟨rfl, c9⟩
      have HB9 := Lib.hid (next HBW.out c9)
      clear c9 k0 k1 HC
      by_cases hle : y ≤ (d : Int)
      · have dd3 : decide (y ≤ (d : Int)) = true := by simpa using hle
        have HE : Hid (grpTo l d (j + 1) = j) := Lib.hid (by unfold grpTo; rw [HY.out, if_pos hle])
        clear hle
        go_wp2
        go_roundw
        case rel => exact ⟨j + 1, by omega, by rw [HE.out], by go_num, HB9.out⟩
        case measure => simp [intOf]; omega
      · have dd3 : decide (y ≤ (d : Int)) = false := by simpa using hle
        have HE : Hid (grpTo l d (j + 1) = gj) := Lib.hid (by unfold grpTo; rw [HY.out, if_neg hle]; exact HGJ.out)
        clear hle
        go_wp2
        go_roundw
        case rel => exact ⟨j + 1, by omega, by rw [HE.out], by go_num, HB9.out⟩
        case measure => simp [intOf]; omega
    · obtain rfl : gn = j := by omega
      obtain ⟨gi, hgi⟩ : ∃ gi, grpTo l d gn = gi := ⟨_, rfl⟩
      have hgin : gi < gn := by rw [← hgi]; exact grpTo_lt l d hg0
      have hgiL : gi < l.length := by rw [HGL.out]; exact hgin
      have HGI := Lib.hid hgi
      rw [hgi]
      have dd2 : decide ((gn : Int) < (gn : Int)) = false := by simp
      have hmw := HM3.out.below hbw
      obtain ⟨g, o, ea, hG⟩ : ∃ g o, a = some ⟨g, o, none⟩ ∧ IsG wr g (o + gi * 2) l[gi] := by
        obtain ⟨_, _, _, e, hg, _⟩ := hmw
        cases e
        exact hg.2.2 gi hgiL
      subst ea
      obtain ⟨wk, hwk⟩ : ∃ wk, l[gi].2 = wk := ⟨_, rfl⟩
      have HWK := Lib.hid hwk
      have g1 := hG.c1
      have gw0 := hG.w0
      have gw1 := hG.w1
      rw [hwk] at g1 gw0 gw1
      have HBr := Lib.hid (HB3.out.trans (hbw.mono (by have := HS3.out.lt.2; omega)))
      have HBX := Lib.hid (hbw.mono HS3.out.lt.2)
      have HSr := Lib.hid (HS3.out.below hbw)
      have q1 : (gi : Int) < (gn : Int) := by omega
      have q2 : (0 : Int) ≤ (gi : Int) := by omega
      clear hbw hgi hmw hG hwk HBW hlt hj
      by_cases hw2 : wk < 2
      · have dd4 : decide (wk < 2) = true := by simpa using hw2
        clear hw2
        go_wp2
        go_ret
        exact ⟨rfl, HBr.out⟩
      · have dd4 : decide (wk < 2) = false := by simpa using hw2
        have HW2 : Hid (∀ k (hk : k < l.length), aheadL l k ≤ (d : Int) → (d : Int) < aheadL l k + l[k].2 → 2 ≤ l[k].2) := Lib.hid fun k hk h1 h2 => by
          have e := grpTo_of HS3.out.right.1 hk h1 h2 gn (by rw [← HGL.out]; exact hk) (by rw [HGL.out]; exact Nat.le_refl _)
          rw [HGI.out] at e
          subst e
          have := HWK.out
          omega
        obtain ⟨r, hr⟩ : ∃ r : Int, ((ch.toNat % 4 : Nat) : Int) = r := ⟨_, rfl⟩
        have hr0 : 0 ≤ r := by omega
        have hr4 : r < 4 := by omega
        have hch : ch.toNat < 256 := ch.toNat_lt
        have qr : Int.tmod (ch.toNat : Int) 4 = r := by
          rw [Int.tmod_eq_emod_of_nonneg (by omega), ← hr]
          omega
        have qr8 : IntKind.u8.wrap r = r := by rw [IntKind.wrap_u8]; omega
        clear hr hw2
        go_upto_block 2 with (fail)
        have q3 : (d : Int) < (x.n : Int) := by omega
        have q4 : (0 : Int) ≤ (d : Int) := by omega
        go_cut [20] from 80 to 129 (fun _ wc => ∃ (ds1 : Nat → Dv) (aw1 : Nat → Bool), Hid (St w1.heap.size wc x l ds1 aw1 64 (XQ x q bx)) ∧ Hid (Below w1.heap.size w3 wc) ∧ Hid (OneD d ds0 ds1 aw1) ∧ Hid ((r < 2 ∧ hereB ds1 aw1 d = false) ∨ (¬ r < 2 ∧ ∀ i, hereB ds1 aw1 i = true)))
        case first =>
          obtain ⟨⟨x0, x1, x2, x3⟩, _⟩ := HSr.out.out
          have hone : ∀ (v : Dv), OneD d ds0 (upd ds0 d v) (fun _ => false) := fun v => ⟨fun i hi => upd_other _ _ hi, fun _ _ => rfl⟩
          have HON := Lib.hid hone
          clear hone
          rcases (by omega : r = 0 ∨ r = 1 ∨ r = 2 ∨ r = 3) with rfl | rfl | rfl | rfl
          · obtain ⟨bp2, cb, hlo⟩ := lose8_any HSr.out hdn
            have HLC := Lib.hid (hlo wr (Below.refl _ _))
            clear hlo x0 x1 x3
            go_wp2_with fail
            refine HLC.out.mono ?_
            rintro e w9 ⟨rfl, h9, c9⟩
            have HS9 := Lib.hid h9
            have HB9 := Lib.hid (HBX.out.trans c9)
            clear h9 c9 HLC cb x2
            go_wp2
            go_meet
            exact ⟨_, _, HS9, HB9, Lib.hid (HON.out _), Lib.hid (.inl ⟨by omega, by unfold hereB; rw [upd_same]; rfl⟩)⟩
          · obtain ⟨ca, fa⟩ := HSr.out.away hdn
            obtain ⟨hm1, hm2, _⟩ := HSr.out.mark hdn true
            have HS9 := Lib.hid hm1
            have HB9 := Lib.hid (HBX.out.trans hm2)
            clear hm1 hm2 x0 x1 x2
            go_wp2
            go_meet
            exact ⟨_, _, HS9, HB9, Lib.hid ⟨fun _ _ => rfl, fun i hi => upd_other _ _ hi⟩, Lib.hid (.inl ⟨by omega, by unfold hereB; rw [upd_same]; rfl⟩)⟩
          · obtain ⟨bp2, cb, hfr⟩ := fresh8_any HSr.out hdn ch
            have HFR := Lib.hid (hfr wr (Below.refl _ _))
            clear hfr x0 x1 x3
            go_wp2_with fail
            refine HFR.out.mono ?_
            rintro e w9 ⟨rfl, h9, c9⟩
            have HS9 := Lib.hid h9
            have HB9 := Lib.hid (HBX.out.trans c9)
            clear h9 c9 HFR cb x2
            go_wp2
            go_meet
            refine ⟨_, _, HS9, HB9, Lib.hid (HON.out _), Lib.hid (.inr ⟨by omega, fun i => ?_⟩)⟩
            unfold hereB upd
            split
            · rfl
            · rw [HLO.out i]; rfl
          · clear x0 x1 x2 x3
            go_wp2_with fail
            go_loopw [20] (fun iv wr' => ∃ j : Nat, j ≤ nH ∧ iv = .int .i64 (j : Int) ∧ (∃ ds, St w1.heap.size wr' x l ds (fun _ => false) 64 (XQ x q bx) ∧ OneD d ds0 ds (fun _ => false) ∧ ∀ i, (ds i).lost = false) ∧ Below w1.heap.size w3 wr') (fun iv _ => nH - (intOf iv).toNat)
            case atStart => exact ⟨0, Nat.zero_le _, rfl, ⟨_, HSr.out, ⟨fun _ _ => rfl, fun _ _ => rfl⟩, HLO.out⟩, HBX.out⟩
            case round =>
              obtain ⟨j, hj, rfl, ⟨ds, hst, hone, hlo⟩, hbw⟩ := hrel
              rename World => wc
              have HS := Lib.hid hst
              have HBW := Lib.hid hbw
              have HBc := Lib.hid (HB3.out.trans (hbw.mono hz1))
              have HO1 := Lib.hid hone
              have HL1 := Lib.hid hlo
              clear hst hbw hone hlo
              by_cases hlt : j < nH
              · obtain ⟨gH, oH, rfl, hit⟩ := HHH.out.2 j hlt
                generalize fH j = hh at hit
                obtain ⟨hd, ha, hp, hby⟩ := hh
                have HE : Hid (∀ W, Below w.heap.size w W → (W.cell? ⟨gH, oH + j * 4, none⟩ = some (.int .i64 hd) ∧ W.cell? ⟨gH, oH + j * 4 + 1, none⟩ = some (.int .i64 ha) ∧ W.cell? ⟨gH, oH + j * 4 + 2, none⟩ = some (.int .i64 hp) ∧ W.cell? ⟨gH, oH + j * 4 + 3, none⟩ = some (.int .u8 (hby.toNat : Int)))) := Lib.hid fun W hb =>
                  ⟨(hb.cell (p := ⟨gH, oH + j * 4, none⟩) hit.lt).trans hit.c0, (hb.cell (p := ⟨gH, oH + j * 4 + 1, none⟩) hit.lt).trans hit.c1, (hb.cell (p := ⟨gH, oH + j * 4 + 2, none⟩) hit.lt).trans hit.c2, (hb.cell (p := ⟨gH, oH + j * 4 + 3, none⟩) hit.lt).trans hit.c3⟩
                obtain ⟨e0, e1, e2, e3⟩ := HE.out wc HBc.out
                clear hit
                obtain ⟨⟨x0, x1, x2, x3⟩, _⟩ := HS.out.out
                have q5 : (j : Int) < (nH : Int) := by omega
                have q6 : (0 : Int) ≤ (j : Int) := by omega
                obtain ⟨bp, cb, hsp⟩ := spoil8_any (HS.out.below (Below.refl _ wc).drew) hdn ha hp hby
                have HSP := Lib.hid (hsp wc.drew (Below.refl _ _))
                have cb' : wc.cell? ⟨x.lb, d, none⟩ = some (.pointer (some ⟨bp, 0, none⟩)) := cb
                have dd5 : decide ((j : Int) < (nH : Int)) = true := by simpa using hlt
                clear hsp cb
                go_wp2_with fail
                go_region_held3 (fun W => W.cell? ⟨bx, 1, none⟩ = some (.int .i64 x.sc) ∧ W.cell? ⟨bx, 2, none⟩ = some (.slice (some ⟨x.lb, 0, none⟩) x.n x.n) ∧ W.cell? ⟨x.lb, d, none⟩ = some (.pointer (some ⟨bp, 0, none⟩)) ∧ W.cell? ⟨gH, oH + j * 4 + 1, none⟩ = some (.int .i64 ha) ∧ W.cell? ⟨gH, oH + j * 4 + 2, none⟩ = some (.int .i64 hp) ∧ W.cell? ⟨gH, oH + j * 4 + 3, none⟩ = some (.int .u8 (hby.toNat : Int)))
                  (first | exact ⟨x1, x2, cb', e1, e2, e3⟩ | exact ⟨y1, y2, y3, y4, y5, y6⟩)
                  (first | (go_at_call 10; refine HSP.out.mono ?_; rintro e w9 ⟨v9, rfl, h9, b9, l9⟩; have HS9 := Lib.hid h9; have HB9 := Lib.hid ((HBW.out.trans ((Below.refl _ wc).drew.mono HS.out.lt.2)).trans b9); have HBr9 := Lib.hid (HB3.out.trans (HB9.out.mono hz1)); obtain ⟨⟨_, y1, y2, _⟩, _⟩ := h9.out; have y3 := (World.cell?_of_block (w := wc.drew) (a := ⟨x.lb, d, none⟩) l9).trans cb'; obtain ⟨_, y4, y5, y6⟩ := HE.out w9 HBr9.out; clear h9 b9 l9))
                go_wp2
                go_roundw
                case rel =>
                  refine ⟨j + 1, by omega, by go_num, ⟨_, HS9.out, ⟨fun i hi => by rw [upd_other _ _ hi]; exact HO1.out.oth i hi, fun _ _ => rfl⟩, fun i => ?_⟩, HB9.out⟩
                  unfold upd
                  split
                  · rw [(spoilD8_same _ _ _ _).1]; exact HL1.out _
                  · exact HL1.out _
                case measure => simp [intOf]; omega
              · have dd5 : decide ((j : Int) < (nH : Int)) = false := by simpa using hlt
                go_wp2
                go_meet
                exact ⟨_, _, HS, HBW, HO1, Lib.hid (.inr ⟨by omega, fun i => by unfold hereB; rw [HL1.out i]; rfl⟩)⟩
        case rest =>
          obtain ⟨ds1, aw1, HS1, HBW1, HONE, HHERE⟩ := hcut
          generalize hw4 : wc = w4 at *
          clear hw4
          have HRP := Lib.hid (HS1.out.rawP HPR.out)
          obtain ⟨i, dd, t, hf, hsum⟩ := HPR.out.one HSZ.out HQS.out HRW.out HONE.out HRP.out HW2.out
          have HBr1 := Lib.hid (HB3.out.trans (HBW1.out.mono hz1))
          obtain ⟨hin, hhit, _⟩ := lookTo_some hf
          have hts : t.size = z * 64 := (HS1.out.calls HPR.out).sz i hin (dd, t) (hitQ_some hhit).1
          have hz4 := (HPR.out.blk 0 (nP_pos _)).2.z4
          have HLK := look_ok HS1.out HPR.out
          rw [lookV_some hf] at HLK
          have HLK' := Lib.hid HLK
          unfold Ptr.val Ptr.cells Px.val at HLK'
          have HHF := Lib.hid hf
          have HSUM := Lib.hid hsum
          have HIN := Lib.hid hin
          have HTS := Lib.hid hts
          obtain ⟨⟨x0, x1, x2, x3⟩, ⟨p0, p1, p2, p3, p4, p5, p6, p7, p8, p9, p10, p11, _⟩⟩ := HS1.out.out
          clear HLK hf hsum hin hhit k0 k1 g1 HBr HBX HSr HHH HLO HHE HGD
          go_wp2_with fail
          refine HLK'.out.mono ?_
          rintro e w6 ⟨rfl, c6⟩
          (try dsimp only)
          have h7 := (HS1.out.below c6).add (boxed w6 (.cells #[.string t, .int .i64 (i : Int), .int .i64 dd, .int .i64 0] 45)) (CameC.new w6 t (i : Int) dd 0 _ (Nat.le_refl _))
          have HS7 := Lib.hid h7
          have HB7 := Lib.hid (next (next HBr1.out c6) (boxed w6 (.cells #[.string t, .int .i64 (i : Int), .int .i64 dd, .int .i64 0] 45)))
          clear x0 x1 x2 x3 p0 p1 p2 p3 p4 p5 p6 p7 p8 p9 p10 p11 c6 h7 HLK'
          obtain ⟨⟨⟨x0, x1, x2, x3⟩, ⟨p0, p1, p2, p3, p4, p5, p6, p7, p8, p9, p10, p11, _⟩⟩, ⟨a0, _, _, _, _, _, _, _⟩⟩ := HS7.out.out
          by_cases ht : t = s
          · subst ht
            obtain ⟨N1, hN1⟩ : ∃ N1, scN l aw1 q z t ds1 i (nP q) = N1 := ⟨_, rfl⟩
            have hSC := hscrub_ok HS7.out HPR.out HHF.out (by omega)
            rw [hN1] at hSC
            have HSC := Lib.hid hSC
            unfold Ptr.val Ptr.cells Px.val at HSC
            have HN1 := Lib.hid hN1
            have htt : (t.toList == t.toList) = true := beq_self_eq_true _
            have htn : (t.toList != t.toList) = false := by unfold bne; rw [htt]; rfl
            clear hSC hN1
            go_wp2_with fail
            refine HSC.out.mono ?_
            rintro e w8 ⟨rfl, h8, c8⟩
            (try dsimp only)
            obtain ⟨ds2, hds2⟩ : ∃ ds2, scS l aw1 q z t ds1 i (nP q) = ds2 := ⟨_, rfl⟩
            rw [hds2] at h8
            have h9 := h8.add (boxed w8 (.cells #[.string t, .int .i64 (i : Int), .int .i64 dd, .int .i64 (N1 : Int)] 45)) (CameC.new w8 t (i : Int) dd (N1 : Int) _ (Nat.le_refl _))
            have HS9 := Lib.hid h9
            have HB9 := Lib.hid (next (HB7.out.trans (c8.mono hz1)) (boxed w8 (.cells #[.string t, .int .i64 (i : Int), .int .i64 dd, .int .i64 (N1 : Int)] 45)))
            have HD2 := Lib.hid hds2
            clear x0 x1 x2 x3 p0 p1 p2 p3 p4 p5 p6 p7 p8 p9 p10 p11 a0 c8 h8 h9 HSC hds2
            obtain ⟨⟨⟨⟨x0, x1, x2, x3⟩, ⟨p0, p1, p2, p3, p4, p5, p6, p7, p8, p9, p10, p11, _⟩⟩, _⟩, ⟨b0, _, _, b3, _, _, _, _⟩⟩ := HS9.out.out
            by_cases hr2 : r < 2
            · have dr2 : decide (r < 2) = true := by simpa using hr2
              have hN0 : N1 = 0 := by
                rcases HHERE.out with ⟨_, hno⟩ | ⟨h2, _⟩
                · rw [← HN1.out]
                  exact HPR.out.goneN HS1.out.right.2 HRW.out HONE.out hno HIN.out
                · omega
              subst hN0
              clear hr2
              go_wp2
              go_ret
              exact ⟨rfl, HB9.out⟩
            · have dr2 : decide (r < 2) = false := by simpa using hr2
              have hall : ∀ i, hereB ds1 aw1 i = true := by
                rcases HHERE.out with ⟨h2, _⟩ | ⟨_, hh⟩
                · omega
                · exact hh
              obtain ⟨hR2, ⟨i2, d2, hf2⟩, _⟩ := HPR.out.healed HS1.out.right.2 HSZ.out HQS.out hall i HD2.out.symm
              have hall2 : ∀ i, hereB ds2 aw1 i = true := fun k => by rw [← HD2.out, scS_here]; exact hall k
              obtain ⟨hin2, _, _⟩ := lookTo_some hf2
              have hSC := hscrub_ok HS9.out HPR.out hf2 (by omega)
              rw [HPR.out.fineN HS1.out.right.2 hR2 hin2, show ((0 : Nat) : Int) = 0 from rfl] at hSC
              obtain ⟨ds3, hds3⟩ : ∃ ds3, scS l aw1 q z t ds2 i2 (nP q) = ds3 := ⟨_, rfl⟩
              obtain ⟨_, ⟨i3, d3, hf3⟩, hfine⟩ := HPR.out.healed HS1.out.right.2 HSZ.out HQS.out hall2 i2 hds3.symm
              rw [hds3] at hSC
              have HSC := Lib.hid hSC
              have HWH : Hid (∀ W (P : World → Prop), St w1.heap.size W x l ds3 aw1 (64 + 128 + 128) P → Calls Tryz.prog 18 #[x.val, q.val] W fun e w' => e = .returned (.bool true) ∧ Below W.heap.size W w') := Lib.hid fun W P hW => whole_ok hW HPR.out hf3 true hfine
              unfold Ptr.val Ptr.cells Px.val at HSC HWH
              clear hSC hds3 hf3 hfine hf2 hin2 hR2 hall hall2 hr2
              go_wp2_with fail
              refine HSC.out.mono ?_
              rintro e w10 ⟨rfl, h10, c10⟩
              (try dsimp only)
              have h11 := h10.add (boxed w10 (.cells #[.string t, .int .i64 (i2 : Int), .int .i64 d2, .int .i64 0] 45)) (CameC.new w10 t (i2 : Int) d2 0 _ (Nat.le_refl _))
              have HS11 := Lib.hid h11
              have HB11 := Lib.hid (next (HB9.out.trans (c10.mono hz1)) (boxed w10 (.cells #[.string t, .int .i64 (i2 : Int), .int .i64 d2, .int .i64 0] 45)))
              clear x0 x1 x2 x3 p0 p1 p2 p3 p4 p5 p6 p7 p8 p9 p10 p11 b0 b3 c10 h10 h11 HSC
              obtain ⟨⟨⟨⟨⟨x0, x1, x2, x3⟩, ⟨p0, p1, p2, p3, p4, p5, p6, p7, p8, p9, p10, p11, _⟩⟩, _⟩, _⟩, ⟨_, _, _, b3, _, _, _, _⟩⟩ := HS11.out.out
              go_wp2_with fail
              refine (HWH.out _ _ HS11.out).mono ?_
              rintro e w12 ⟨rfl, c12⟩
              (try dsimp only)
              have HB12 := Lib.hid (next HB11.out c12)
              clear x0 x1 x2 x3 p0 p1 p2 p3 p4 p5 p6 p7 p8 p9 p10 p11 b3 c12
              go_wp2
              go_ret
              exact ⟨rfl, HB12.out⟩
          · have hne : (t.toList == s.toList) = false := str_ne ht
            have hnn : (t.toList != s.toList) = true := by unfold bne; rw [hne]; rfl
            have HSM := Lib.hid (fun W => sum_any t W (by omega))
            have HSM2 := Lib.hid (fun W => sum_any s W (by have := HSZ.out; omega))
            have hqe : sumQ zeroQ (wordsB t) = sumQ zeroQ (wordsB s) := HSUM.out
            rw [hqe] at HSM
            generalize sumQ zeroQ (wordsB s) = Q0 at HSM HSM2
            have he4 : eq4 (Q0.a : Int) Q0.b Q0.c Q0.d Q0.a Q0.b Q0.c Q0.d = true := eq4_true rfl rfl rfl rfl
            have hgg := sum_guard
            have hqq := sum_equal
            clear hqe ht
            go_wp2_with fail
            refine (HSM.out _).mono ?_
            rintro e w8 ⟨rfl, c8⟩
            (try dsimp only)
            have HB8 := Lib.hid (next HB7.out c8)
            clear x0 x1 x2 x3 p0 p1 p2 p3 p4 p5 p6 p7 p8 p9 p10 p11 a0 c8
            go_wp2_with fail
            refine (HSM2.out _).mono ?_
            rintro e w9 ⟨rfl, c9⟩
            (try dsimp only)
            have HB9 := Lib.hid (next HB8.out c9)
            clear c9
            go_wp2
            go_ret
            exact ⟨rfl, HB9.out⟩
end Go.Proofs.YtiffkbmcikiioaaGreat
