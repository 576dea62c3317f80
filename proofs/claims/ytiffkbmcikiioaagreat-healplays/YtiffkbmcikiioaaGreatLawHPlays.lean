/-
  The walk of polderlaw10.HealPlays: it returns true, and writes nothing that was there.
-/
import Derived.Test.YtiffkbmcikiioaaGreatY49
import Derived.Test.YtiffkbmcikiioaaGreatY50
import Derived.Test.YtiffkbmcikiioaaGreatY47
import Derived.Test.YtiffkbmcikiioaaGreatY06
import Derived.Test.YtiffkbmcikiioaaGreatJb
import Derived.Test.YtiffkbmcikiioaaGreatJx
import Derived.Test.YtiffkbmcikiioaaGreatJr
import Derived.Deep.DeepCutAuto
import Derived.Deep.CutBlock
namespace Go.Proofs.YtiffkbmcikiioaaGreat
set_option maxRecDepth 100000
open Go.RowKit Go.Shelf Go.Maps M

/-- Devices and a pointer in boxes. -/
structure XQ (x : Px) (q : Ptr) (b : Nat) (w : World) : Prop where
  x : BoxX x b w
  q : Box w (b + 1) q
theorem boxesPQ {B : Nat} {w : World} {x : Px} {l : List (Int × Int)} {ds : Nat → Dv} {aw : Nat → Bool} {K : Nat} {P : World → Prop} (h : St B w x l ds aw K P) (q : Ptr) :
    St B ((w.alloc (.cells #[.slice x.ga x.gn x.gc, .int .i64 x.sc, .slice (some ⟨x.lb, 0, none⟩) x.n x.n, .slice (some ⟨x.ab, 0, none⟩) x.n x.n] 37)).alloc (.cells q.cells 31)) x l ds aw K (fun W => P W ∧ XQ x q w.heap.size W) ∧ Below w.heap.size w ((w.alloc (.cells #[.slice x.ga x.gn x.gc, .int .i64 x.sc, .slice (some ⟨x.lb, 0, none⟩) x.n x.n, .slice (some ⟨x.ab, 0, none⟩) x.n x.n] 37)).alloc (.cells q.cells 31)) := by
  have b1 := boxed w (.cells #[.slice x.ga x.gn x.gc, .int .i64 x.sc, .slice (some ⟨x.lb, 0, none⟩) x.n x.n, .slice (some ⟨x.ab, 0, none⟩) x.n x.n] 37)
  have h1 := BoxX.new w x w.heap.size (Nat.le_refl _) 37
  have s1 : (w.alloc (.cells #[.slice x.ga x.gn x.gc, .int .i64 x.sc, .slice (some ⟨x.lb, 0, none⟩) x.n x.n, .slice (some ⟨x.ab, 0, none⟩) x.n x.n] 37)).heap.size = w.heap.size + 1 := World.size_alloc _ _
  obtain ⟨w1, hw1⟩ : ∃ w1, w.alloc (.cells #[.slice x.ga x.gn x.gc, .int .i64 x.sc, .slice (some ⟨x.lb, 0, none⟩) x.n x.n, .slice (some ⟨x.ab, 0, none⟩) x.n x.n] 37) = w1 := ⟨_, rfl⟩
  rw [hw1] at b1 h1 s1 ⊢
  have b2 := boxed w1 (.cells q.cells 31)
  have h2 := BoxPt.new w1 q w.heap.size b1.size
  rw [s1] at h2
  exact ⟨(h.add (next b1 b2) ((h1.next b2).and h2)).mono fun W hW => ⟨hW.1, hW.2.1, hW.2.2⟩, next b1 b2⟩
theorem dev_box (w : World) (a b c d : Value) (ty : TypeId) (o : Obj) : ((w.alloc (.cells #[a, b, c, d] ty)).alloc o).cell? ⟨w.heap.size, 0, none⟩ = some a ∧ ((w.alloc (.cells #[a, b, c, d] ty)).alloc o).cell? ⟨w.heap.size, 1, none⟩ = some b ∧ ((w.alloc (.cells #[a, b, c, d] ty)).alloc o).cell? ⟨w.heap.size, 2, none⟩ = some c ∧ ((w.alloc (.cells #[a, b, c, d] ty)).alloc o).cell? ⟨w.heap.size, 3, none⟩ = some d := by
  simp
/-- The pointer that is none, as a value. -/
abbrev zeroPV : Value := .agg #[.int .i64 0, .int .i64 0, .int .i64 0, .int .i64 0, .bool false, .int .i64 0, .int .i64 0, .int .i64 0, .int .u64 0, .int .u64 0, .int .u64 0, .int .u64 0]
theorem noP_val : noP.val = zeroPV := rfl

set_option maxHeartbeats 8000000 in
theorem walk_HealPlays (v : Value) (l : List (Int × Int)) (sc : Int) (p : Ptr) (s : ByteArray) (aA : Option Addr) (nA cA : Nat) (aL : Option Addr) (nL cL : Nat) (aH : Option Addr) (nH cH : Nat) (scrub : Bool) (w : World) (h : Meas w v l sc) (hx : p.Ok) (hs : s.size ≤ maxLen) (hA : ∃ f, Bl w aA nA f) (hL : ∃ f, Bl w aL nL f) (hH : ∃ f, Hits w aH nH f) :
    Calls Tryz.prog 5 #[v, p.val, .string s, .slice aA nA cA, .slice aL nL cL, .slice aH nH cH, .bool scrub] w fun e w' => e = .returned (.bool true) ∧ Below w.heap.size w w' := by
  obtain ⟨fA, hA⟩ := hA
  obtain ⟨fL, hL⟩ := hL
  obtain ⟨fH, hH⟩ := hH
  obtain ⟨a, gn, gc, rfl, hg⟩ := id h
  have K1 := Lib.hid (GP.start p h)
  have HX := Lib.hid hx
  have HSL := Lib.hid hs
  have HAA := Lib.hid hA
  have HLL := Lib.hid hL
  have HHH := Lib.hid hH
  have hnH := hH.1
  unfold maxLen at hnH
  clear h hx hs hA hL hH hg
  simp only [Ptr.val]
  unfold Ptr.cells at K1 ⊢
  go_enter Tryz.func5, Tryz.ntmps5
  go_wp2_with fail
  refine (awake10 _).mono ?_
  rintro e w1 ⟨rfl, c1⟩
  have K2 := Lib.hid (K1.out.next c1)
  clear c1 K1
  by_cases hn30 : nH ≤ 30
  case neg =>
    have d1 : decide (30 < (nH : Int)) = true := by rw [decide_eq_true_iff]; omega
    have HF := Lib.hid K2.out.h.below
    clear hn30
    go_wp2_with fail
    refine (awake10 _).mono ?_
    rintro e w2 ⟨rfl, c2⟩
    go_wp2
    go_ret
    exact ⟨rfl, next HF.out c2⟩
  have d1 : decide (30 < (nH : Int)) = false := by rw [decide_eq_false_iff_not]; omega
  obtain ⟨⟨k0, k1, _⟩, ⟨p0, p1, p2, p3, p4, p5, p6, p7, p8, p9, p10, p11, plt⟩⟩ := (⟨⟨K2.out.h.c0, K2.out.h.c1, trivial⟩, K2.out.x⟩ : (_ ∧ _ ∧ True) ∧ Box _ _ _)
  clear plt
  by_cases hgo : laidB l sc p s = true
  case neg =>
    have hgo' : laidB l sc p s = false := by simpa using hgo
    have HLD := Lib.hid (laid_no _ l sc p s aA aL nA cA nL cL w1 K2.out.h.m HX.out HSL.out hgo')
    clear hgo hgo'
    unfold Ptr.val Ptr.cells at HLD
    go_wp2_with fail
    refine HLD.out.mono ?_
    rintro e w2 ⟨vx, q, rfl, hX, c2⟩
    have HF := Lib.hid (next K2.out.h.below c2)
    clear HLD c2
    rcases hX with rfl | ⟨x, l', ds', aw', K', rfl, hst⟩
    · have HLK : Hid (∀ W, Below w2.heap.size w2 W → Calls Tryz.prog 11 #[.agg #[.slice none 0 0, .int .i64 0, .slice none 0 0, .slice none 0 0], zeroPV] W fun e w' => e = .returned (.tuple #[.agg #[.string ⟨#[]⟩, .int .i64 0, .int .i64 0, .int .i64 0], .int .i64 1]) ∧ Below W.heap.size W w') := Lib.hid fun W hW => by
        have := look_nop0 W
        rw [noP_val] at this
        exact this
      have HWH : Hid (∀ W, Below w2.heap.size w2 W → Calls Tryz.prog 18 #[.agg #[.slice none 0 0, .int .i64 0, .slice none 0 0, .slice none 0 0], zeroPV] W fun e w' => e = .returned (.bool false) ∧ Below W.heap.size W w') := Lib.hid fun W hW => by
        have := whole_nop0 W
        rw [noP_val] at this
        exact this
      have hb3 := two_boxed w2 (.cells #[.slice none 0 0, .int .i64 0, .slice none 0 0, .slice none 0 0] 37) (.cells #[.int .i64 q.ag, .int .i64 q.aa, .int .i64 q.bg, .int .i64 q.ba, .bool q.two, .int .i64 q.sz, .int .i64 q.lv, .int .i64 q.bi, .int .u64 q.q.a, .int .u64 q.q.b, .int .u64 q.q.c, .int .u64 q.q.d] 31)
      have HB3 := Lib.hid hb3
      unfold noDevs
      clear hb3
      go_wp2_with fail
      refine (HLK.out _ HB3.out).mono ?_
      rintro e w4 ⟨rfl, c4⟩
      have HB4 := Lib.hid (next HB3.out c4)
      obtain ⟨t0, t1, t2, t3⟩ := dev_box w2 (.slice none 0 0) (.int .i64 0) (.slice none 0 0) (.slice none 0 0) 37 (.cells #[.int .i64 q.ag, .int .i64 q.aa, .int .i64 q.bg, .int .i64 q.ba, .bool q.two, .int .i64 q.sz, .int .i64 q.lv, .int .i64 q.bi, .int .u64 q.q.a, .int .u64 q.q.b, .int .u64 q.q.c, .int .u64 q.q.d] 31)
      have e0 := (c4.cell (p := ⟨w2.heap.size, 0, none⟩) (by simp; omega)).trans t0
      have e1 := (c4.cell (p := ⟨w2.heap.size, 1, none⟩) (by simp; omega)).trans t1
      have e2 := (c4.cell (p := ⟨w2.heap.size, 2, none⟩) (by simp; omega)).trans t2
      have e3 := (c4.cell (p := ⟨w2.heap.size, 3, none⟩) (by simp; omega)).trans t3
      clear t0 t1 t2 t3
      have hlt4 : w2.heap.size < w4.heap.size := World.block_lt_of_cell? w4 _ e0
      have hb5 := boxed w4 (.cells #[.string ⟨#[]⟩, .int .i64 0, .int .i64 0, .int .i64 0] 45)
      have HB5 := Lib.hid (next HB4.out hb5)
      have n0 : ¬ w2.heap.size = w4.heap.size := by omega
      clear c4 hb5
      go_wp2_with fail
      refine (HWH.out _ HB5.out).mono ?_
      rintro e w6 ⟨rfl, c6⟩
      have HB6 := Lib.hid (next HB5.out c6)
      clear c6 e0 e1 e2 e3 hlt4 n0
      go_wp2
      go_ret
      exact ⟨rfl, next HF.out HB6.out⟩
    · have HST := Lib.hid hst
      clear hst
      have HLK : Hid (∀ W, Below w2.heap.size w2 W → Calls Tryz.prog 11 #[.agg #[.slice x.ga x.gn x.gc, .int .i64 x.sc, .slice (some ⟨x.lb, 0, none⟩) x.n x.n, .slice (some ⟨x.ab, 0, none⟩) x.n x.n], zeroPV] W fun e w' => e = .returned (.tuple #[.agg #[.string ⟨#[]⟩, .int .i64 0, .int .i64 0, .int .i64 0], .int .i64 1]) ∧ Below W.heap.size W w') := Lib.hid fun W hW => by
        have := look_nopX (HST.out.below hW)
        rw [noP_val] at this
        exact this
      have HWH : Hid (∀ W, Below w2.heap.size w2 W → Calls Tryz.prog 18 #[.agg #[.slice x.ga x.gn x.gc, .int .i64 x.sc, .slice (some ⟨x.lb, 0, none⟩) x.n x.n, .slice (some ⟨x.ab, 0, none⟩) x.n x.n], zeroPV] W fun e w' => e = .returned (.bool false) ∧ Below W.heap.size W w') := Lib.hid fun W hW => by
        have := whole_nopX (HST.out.below hW)
        rw [noP_val] at this
        exact this
      have hb3 := two_boxed w2 (.cells #[.slice x.ga x.gn x.gc, .int .i64 x.sc, .slice (some ⟨x.lb, 0, none⟩) x.n x.n, .slice (some ⟨x.ab, 0, none⟩) x.n x.n] 37) (.cells #[.int .i64 q.ag, .int .i64 q.aa, .int .i64 q.bg, .int .i64 q.ba, .bool q.two, .int .i64 q.sz, .int .i64 q.lv, .int .i64 q.bi, .int .u64 q.q.a, .int .u64 q.q.b, .int .u64 q.q.c, .int .u64 q.q.d] 31)
      have HB3 := Lib.hid hb3
      unfold Px.val
      clear hb3
      go_wp2_with fail
      refine (HLK.out _ HB3.out).mono ?_
      rintro e w4 ⟨rfl, c4⟩
      have HB4 := Lib.hid (next HB3.out c4)
      obtain ⟨t0, t1, t2, t3⟩ := dev_box w2 (.slice x.ga x.gn x.gc) (.int .i64 x.sc) (.slice (some ⟨x.lb, 0, none⟩) x.n x.n) (.slice (some ⟨x.ab, 0, none⟩) x.n x.n) 37 (.cells #[.int .i64 q.ag, .int .i64 q.aa, .int .i64 q.bg, .int .i64 q.ba, .bool q.two, .int .i64 q.sz, .int .i64 q.lv, .int .i64 q.bi, .int .u64 q.q.a, .int .u64 q.q.b, .int .u64 q.q.c, .int .u64 q.q.d] 31)
      have e0 := (c4.cell (p := ⟨w2.heap.size, 0, none⟩) (by simp; omega)).trans t0
      have e1 := (c4.cell (p := ⟨w2.heap.size, 1, none⟩) (by simp; omega)).trans t1
      have e2 := (c4.cell (p := ⟨w2.heap.size, 2, none⟩) (by simp; omega)).trans t2
      have e3 := (c4.cell (p := ⟨w2.heap.size, 3, none⟩) (by simp; omega)).trans t3
      clear t0 t1 t2 t3
      have hlt4 : w2.heap.size < w4.heap.size := World.block_lt_of_cell? w4 _ e0
      have hb5 := boxed w4 (.cells #[.string ⟨#[]⟩, .int .i64 0, .int .i64 0, .int .i64 0] 45)
      have HB5 := Lib.hid (next HB4.out hb5)
      have n0 : ¬ w2.heap.size = w4.heap.size := by omega
      clear c4 hb5
      go_wp2_with fail
      refine (HWH.out _ HB5.out).mono ?_
      rintro e w6 ⟨rfl, c6⟩
      have HB6 := Lib.hid (next HB5.out c6)
      clear c6 e0 e1 e2 e3 hlt4 n0
      go_wp2
      go_ret
      exact ⟨rfl, next HF.out HB6.out⟩
  have HLD := Lib.hid (laid_ok _ l sc p s aA aL nA cA nL cL fA fL w1 K2.out.h.m HX.out HSL.out (HAA.out.below K2.out.h.below) (HLL.out.below K2.out.h.below) hgo)
  clear hgo
  obtain ⟨q, hq⟩ : ∃ q, lqP p s = q := ⟨_, rfl⟩
  rw [hq] at HLD
  have HQS : Hid (q.q = sumB s) := Lib.hid (by rw [← hq]; rfl)
  clear hq
  simp only [Ptr.val, Ptr.cells] at HLD
  go_wp2_with fail
  refine HLD.out.mono ?_
  rintro e w2 ⟨x, hv, z, rfl, rfl, hpr, hsz, h2, c2⟩
  unfold Px.val
  obtain ⟨hx3, b3⟩ := boxesPQ h2 q
  have HPR := Lib.hid hpr
  have HSZ := Lib.hid hsz
  have HC3 := Lib.hid (next c2 b3)
  have HB3 := Lib.hid (next K2.out.h.below HC3.out)
  unfold Ptr.cells at hx3 HC3 HB3
  have hz1 := K2.out.h.below.size
  clear h2 c2 b3 hpr hsz HLD k0 k1 p0 p1 p2 p3 p4 p5 p6 p7 p8 p9 p10 p11
  have hhb : ∀ i, i < x.n → hereB (loS nL fL (wpS l x.sc q z s (nP p)) x.n) (awTo nA fA x.n) i = (!saysB nA fA i && !saysB nL fL i) := fun i hi => hereB_lo (fun i => wpS_lost _ _ _ _ _ _ _) hi
  generalize loS nL fL (wpS l x.sc q z s (nP p)) x.n = ds0 at hx3 hhb
  have hn1 : 1 ≤ x.n := (hx3.right.1.devs hx3.right.2).1
  generalize haw : awTo nA fA x.n = aw at hx3 hhb
  obtain ⟨gV, cV, rfl, _, _⟩ := HereV.of hx3.out.1 hn1 hhb
  have HHV : Hid (∀ W, OwnBl w1.heap.size W (.slice (some ⟨gV, 0, none⟩) x.n cV) (hereTo nA nL fA fL x.n) → HereV W gV x.n (hereB ds0 aw)) := Lib.hid fun W hW => by
    obtain ⟨g', c', e, _, hV⟩ := HereV.of hW hn1 hhb
    simp only [Value.slice.injEq, Option.some.injEq, Addr.mk.injEq, and_true, true_and] at e
    obtain ⟨rfl, _⟩ := e
    exact hV
  have HS3 := Lib.hid hx3
  clear hx3 hhb haw
  obtain ⟨_, h32⟩ := HS3.out.right.1.devs HS3.out.right.2
  go_wp2_with fail
  obtain ⟨bx, hbx⟩ : ∃ bx, w2.heap.size = bx := ⟨_, rfl⟩
  obtain ⟨w3, hw3⟩ : ∃ w3, (w2.alloc (.cells #[.slice x.ga x.gn x.gc, .int .i64 x.sc, .slice (some ⟨x.lb, 0, none⟩) x.n x.n, .slice (some ⟨x.ab, 0, none⟩) x.n x.n] 37)).alloc (.cells #[.int .i64 q.ag, .int .i64 q.aa, .int .i64 q.bg, .int .i64 q.ba, .bool q.two, .int .i64 q.sz, .int .i64 q.lv, .int .i64 q.bi, .int .u64 q.q.a, .int .u64 q.q.b, .int .u64 q.q.c, .int .u64 q.q.d] 31) = w3 := ⟨_, rfl⟩
  rw [hw3] at HS3 HC3 HB3 ⊢
  rw [hbx] at HS3 ⊢
  clear hw3 hbx
  go_loopw [21] (fun iv wr => ∃ j : Nat, j ≤ nH ∧ iv = .int .i64 j ∧ (∃ ds, St w1.heap.size wr x l ds aw 64 (fun W => OwnBl w1.heap.size W (.slice (some ⟨gV, 0, none⟩) x.n cV) (hereTo nA nL fA fL x.n) ∧ XQ x q bx W) ∧ Hid (hereB ds aw = hereB ds0 aw)) ∧ Below w1.heap.size w3 wr) (fun iv _ => nH - (intOf iv).toNat)
  case atStart => exact ⟨0, Nat.zero_le _, rfl, ⟨_, HS3.out, Lib.hid rfl⟩, Below.refl _ _⟩
  case round =>
    obtain ⟨j, hj, rfl, ⟨ds, hst, HHB⟩, hbw⟩ := hrel
    rename World => wr
    have HS := Lib.hid hst
    have HBW := Lib.hid hbw
    have HBr := Lib.hid (HB3.out.trans (hbw.mono hz1))
    clear hst hbw
    by_cases hlt : j < nH
    · obtain ⟨gH, oH, rfl, hit⟩ := HHH.out.2 j hlt
      generalize fH j = hh at hit
      obtain ⟨hd, ha, hp, hby⟩ := hh
      have HE : Hid (∀ W, Below w.heap.size w W → (W.cell? ⟨gH, oH + j * 4, none⟩ = some (.int .i64 hd) ∧ W.cell? ⟨gH, oH + j * 4 + 1, none⟩ = some (.int .i64 ha) ∧ W.cell? ⟨gH, oH + j * 4 + 2, none⟩ = some (.int .i64 hp) ∧ W.cell? ⟨gH, oH + j * 4 + 3, none⟩ = some (.int .u8 (hby.toNat : Int)))) := Lib.hid fun W hb =>
        ⟨(hb.cell (p := ⟨gH, oH + j * 4, none⟩) hit.lt).trans hit.c0, (hb.cell (p := ⟨gH, oH + j * 4 + 1, none⟩) hit.lt).trans hit.c1, (hb.cell (p := ⟨gH, oH + j * 4 + 2, none⟩) hit.lt).trans hit.c2, (hb.cell (p := ⟨gH, oH + j * 4 + 3, none⟩) hit.lt).trans hit.c3⟩
      obtain ⟨e0, e1, e2, e3⟩ := HE.out wr HBr.out
      clear hit
      obtain ⟨_, ⟨x0, x1, x2, x3⟩, _⟩ := HS.out.out
      have q1 : (j : Int) < (nH : Int) := by omega
      have q2 : (0 : Int) ≤ (j : Int) := by omega
      by_cases hr : 0 ≤ hd ∧ hd < (x.n : Int)
      · obtain ⟨hr0, hr1⟩ := hr
        obtain ⟨dn, rfl⟩ := Int.eq_ofNat_of_zero_le hr0
        have hdn : dn < x.n := by omega
        obtain ⟨bp, cb, hsp⟩ := spoil8_any (HS.out.below (Below.refl _ wr).drew) hdn ha hp hby
        have HSP := Lib.hid (hsp wr.drew (Below.refl _ _))
        have cb' : wr.cell? ⟨x.lb, dn, none⟩ = some (.pointer (some ⟨bp, 0, none⟩)) := cb
        have dd1 : decide ((0 : Int) ≤ (dn : Int)) = true := by simp
        have dd2 : decide ((dn : Int) < (x.n : Int)) = true := by simpa using hdn
        clear hsp cb hdn
        go_wp2_with fail
        go_region_held3 (fun W => W.cell? ⟨bx, 1, none⟩ = some (.int .i64 x.sc) ∧ W.cell? ⟨bx, 2, none⟩ = some (.slice (some ⟨x.lb, 0, none⟩) x.n x.n) ∧ W.cell? ⟨x.lb, dn, none⟩ = some (.pointer (some ⟨bp, 0, none⟩)) ∧ W.cell? ⟨gH, oH + j * 4 + 1, none⟩ = some (.int .i64 ha) ∧ W.cell? ⟨gH, oH + j * 4 + 2, none⟩ = some (.int .i64 hp) ∧ W.cell? ⟨gH, oH + j * 4 + 3, none⟩ = some (.int .u8 (hby.toNat : Int)))
          (first | exact ⟨x1, x2, cb', e1, e2, e3⟩ | exact ⟨y1, y2, y3, y4, y5, y6⟩)
          (first | (go_at_call 10; refine HSP.out.mono ?_; rintro e w9 ⟨v9, rfl, h9, b9, l9⟩; have HS9 := Lib.hid h9; have HB9 := Lib.hid ((HBW.out.trans ((Below.refl _ wr).drew.mono HS.out.lt.2)).trans b9); have HBr9 := Lib.hid (HB3.out.trans (HB9.out.mono hz1)); obtain ⟨_, ⟨_, y1, y2, _⟩, _⟩ := h9.out; have y3 := (World.cell?_of_block (w := wr.drew) (a := ⟨x.lb, dn, none⟩) l9).trans cb'; obtain ⟨_, y4, y5, y6⟩ := HE.out w9 HBr9.out; clear h9 b9 l9))
        go_wp2
        go_roundw
        case rel => exact ⟨j + 1, by omega, by go_num, ⟨_, HS9.out, Lib.hid (by rw [hereB_spoil]; exact HHB.out)⟩, HB9.out⟩
        case measure => simp [intOf]; omega
      · have HNR := Lib.hid hr
        by_cases hr0 : 0 ≤ hd
        · have dd1 : decide ((0 : Int) ≤ hd) = true := by simpa using hr0
          have dd2 : decide (hd < (x.n : Int)) = false := by rw [decide_eq_false_iff_not]; exact fun h => hr ⟨hr0, h⟩
          clear hr
          go_wp2
          go_roundw
          case rel => exact ⟨j + 1, by omega, by go_num, ⟨_, HS.out, HHB⟩, HBW.out⟩
          case measure => simp [intOf]; omega
        · have dd1 : decide ((0 : Int) ≤ hd) = false := by simpa using hr0
          clear hr
          go_wp2
          go_roundw
          case rel => exact ⟨j + 1, by omega, by go_num, ⟨_, HS.out, HHB⟩, HBW.out⟩
          case measure => simp [intOf]; omega
    · obtain rfl : nH = j := by omega
      have HPLC := Lib.hid (places_new q HPR.out.ne)
      unfold Ptr.val Ptr.cells at HPLC
      have HCr := Lib.hid (HC3.out.trans HBW.out)
      obtain ⟨N, hN⟩ : ∃ N, nP q = N := ⟨_, rfl⟩
      have hN2 : N ≤ 2 := by rw [← hN]; exact nP_le q
      have hN0 : 0 < N := by rw [← hN]; exact nP_pos q
      have HN := Lib.hid hN
      rw [hN] at HPLC
      obtain ⟨_, _, ⟨p0, p1, p2, p3, p4, p5, p6, p7, p8, p9, p10, p11, _⟩⟩ := HS.out.out
      have dd2 : decide ((nH : Int) < (nH : Int)) = false := by simp
      clear hN hlt hj HBW HHH HS3 HC3 HB3
      go_wp2_with fail
      refine (HPLC.out _).mono ?_
      rintro e w4 ⟨gP, rfl, hgP, hPL, c4⟩
      have HPL4 := Lib.hid hPL
      have HGP := Lib.hid hgP
      have HS4 := Lib.hid (HS.out.below c4)
      have HB4 := Lib.hid c4
      have HPN : Hid (New wr.heap.size w4 (fun W => PlA W gP q)) := Lib.hid (hPL.new hgP)
      obtain ⟨R, hR⟩ : ∃ R, RW ds aw l q z = R := ⟨_, rfl⟩
      have HRR := Lib.hid hR
      have HCx : Hid (Below w1.heap.size w1 w4) := Lib.hid (HCr.out.trans (c4.mono HS.out.lt.2))
      clear p0 p1 p2 p3 p4 p5 p6 p7 p8 p9 p10 p11 hgP hPL c4 dd2 HPLC hR
      go_wp2_with fail
      go_loopw [23, 25] (fun rv iv wq => ∃ j : Nat, j ≤ N ∧ iv = .int .i64 (j : Int) ∧ RawsV w4.heap.size wq rv R j ∧ Below w4.heap.size w4 wq) (fun _ iv _ => N - (intOf iv).toNat)
      case atStart => exact ⟨0, Nat.zero_le _, rfl, RawsV.nil _ _ _, Below.refl _ _⟩
      case round =>
        obtain ⟨j, hj, rfl, hraw, hbw⟩ := hrel
        rename World => wq
        have HRV := Lib.hid hraw
        have HBW := Lib.hid hbw
        have HSq := Lib.hid (HS4.out.below hbw)
        by_cases hlt : j < N
        · have hjn : j < nP q := by rw [HN.out]; exact hlt
          obtain ⟨hat, hblk⟩ := HPR.out.blk j hjn
          have hpa := (HPL4.out.next hbw).2 j hjn
          rw [hat] at hpa
          obtain ⟨e0, e1⟩ := hpa
          obtain ⟨_, ⟨x0, x1, x2, x3⟩, ⟨_, _, _, _, _, p5, _, _, _, _, _, _, _⟩⟩ := HSq.out.out
          have hcr := raw_ok (HSq.out.below (Below.refl _ wq).drew) (kN q j) (tN q j) z hblk
          rw [show rawL ds aw (colsOf l (kN q j) (tN q j) z) = R j by rw [← HRR.out]; rfl, ← HPR.out.sz] at hcr
          have HCR := Lib.hid hcr
          unfold Px.val at HCR
          have HRL : Hid (0 < (R j).length) := Lib.hid (by
            rw [← HRR.out]
            unfold RW
            rw [rawL_len]
            exact hblk.laid.pos)
          have HE : Hid (∀ W, Below wq.heap.size wq W → (W.cell? ⟨bx, 0, none⟩ = some (.slice x.ga x.gn x.gc) ∧ W.cell? ⟨bx, 1, none⟩ = some (.int .i64 x.sc) ∧ W.cell? ⟨bx, 2, none⟩ = some (.slice (some ⟨x.lb, 0, none⟩) x.n x.n) ∧ W.cell? ⟨bx, 3, none⟩ = some (.slice (some ⟨x.ab, 0, none⟩) x.n x.n) ∧ W.cell? ⟨gP, j * 2, none⟩ = some (.int .i64 (kN q j : Int)) ∧ W.cell? ⟨gP, j * 2 + 1, none⟩ = some (.int .i64 (tN q j : Int)) ∧ W.cell? ⟨bx + 1, 5, none⟩ = some (.int .i64 q.sz))) := Lib.hid fun W hb =>
            ⟨(hb.cell (p := ⟨bx, 0, none⟩) (World.block_lt_of_cell? wq _ x0)).trans x0, (hb.cell (p := ⟨bx, 1, none⟩) (World.block_lt_of_cell? wq _ x1)).trans x1, (hb.cell (p := ⟨bx, 2, none⟩) (World.block_lt_of_cell? wq _ x2)).trans x2, (hb.cell (p := ⟨bx, 3, none⟩) (World.block_lt_of_cell? wq _ x3)).trans x3, (hb.cell (p := ⟨gP, j * 2, none⟩) (World.block_lt_of_cell? wq _ e0)).trans e0, (hb.cell (p := ⟨gP, j * 2 + 1, none⟩) (World.block_lt_of_cell? wq _ e1)).trans e1, (hb.cell (p := ⟨bx + 1, 5, none⟩) (World.block_lt_of_cell? wq _ p5)).trans p5⟩
          have q1 : (j : Int) < (N : Int) := by omega
          have q2 : (0 : Int) ≤ (j : Int) := by omega
          have dd2 : decide ((j : Int) < (N : Int)) = true := by simpa using hlt
          clear hraw hbw hjn hat hblk hcr
          go_wp2_with fail
          go_region_held3 (fun W => W.cell? ⟨bx, 0, none⟩ = some (.slice x.ga x.gn x.gc) ∧ W.cell? ⟨bx, 1, none⟩ = some (.int .i64 x.sc) ∧ W.cell? ⟨bx, 2, none⟩ = some (.slice (some ⟨x.lb, 0, none⟩) x.n x.n) ∧ W.cell? ⟨bx, 3, none⟩ = some (.slice (some ⟨x.ab, 0, none⟩) x.n x.n) ∧ W.cell? ⟨gP, j * 2, none⟩ = some (.int .i64 (kN q j : Int)) ∧ W.cell? ⟨gP, j * 2 + 1, none⟩ = some (.int .i64 (tN q j : Int)) ∧ W.cell? ⟨bx + 1, 5, none⟩ = some (.int .i64 q.sz))
            (first | exact ⟨x0, x1, x2, x3, e0, e1, p5⟩ | exact ⟨z0, z1, z2, z3, z4, z5, z6⟩)
            (first | (go_at_call 20; refine HCR.out.mono ?_; rintro e w9 ⟨v9, rfl, hO9, b9⟩; have HO9 := Lib.hid hO9; have HB9 := Lib.hid ((Below.refl _ wq).drew.trans b9); obtain ⟨z0, z1, z2, z3, z4, z5, z6⟩ := HE.out w9 HB9.out; clear hO9 b9))
          clear z0 z1 z2 z3 z4 z5 z6 x0 x1 x2 x3 e0 e1 p5 HCR
          have hRV9 := HRV.out.below HB9.out
          obtain ⟨lst, hll, hOS, hTX⟩ := hRV9.own
          have hT9 : TxtO w4.heap.size w9 u23.ownBlock v9 (R j) := TxtO.of HO9.out HRL.out HBW.out.size fun k hk => by
            have := HRV.out.lt k hk
            exact this
          obtain ⟨g9, c9, e9, _⟩ := id hT9
          subst e9
          have hone := hT9.one
          have HOS := Lib.hid hOS
          have HTX := Lib.hid hTX
          have HT9 := Lib.hid hT9
          have HLL := Lib.hid hll
          have hw49 : w4.heap.size ≤ w9.heap.size := Nat.le_trans HBW.out.size HB9.out.size
          have HBX := Lib.hid (HBW.out.trans (HB9.out.mono HBW.out.size))
          have hj2 : j ≤ 2 := by omega
          clear hRV9 hll hOS hTX hT9
          go_wp2_with (at_builtin; refine wpList_append_strs _ rfl _ _ rfl w4.heap.size u23 lst (.slice (some ⟨g9, 0, none⟩) (R j).length c9) _ _ rfl rfl hone (HOS.out.below (boxed _ _)) (by simp) (by simp; omega) (by rw [HLL.out]; omega) ?_; intro v10 w10 hO10 hg10 hv10)
          have hT8 : ∀ i (h : i < lst.length), TxtO w4.heap.size (w9.alloc (.cells #[.slice (some ⟨g9, 0, none⟩) (R j).length c9] 60)) u23.ownBlock lst[i] (R i) := fun i hi => (HTX.out i hi).below (boxed _ _)
          have HR10 : Hid (RawsV w4.heap.size w10 v10 R (j + 1)) := Lib.hid (RawsV.snoc HLL.out hT8 (HT9.out.below (boxed _ _)) hO10 hg10 hv10)
          have HB10 : Hid (Below w4.heap.size w4 w10) := Lib.hid ((HBX.out.trans ((boxed _ _).mono hw49)).trans ((grown_raws hg10).below (fun k hk => (World.ownsRow.lt HOS.out k hk).1) (by simp; omega)))
          clear hT8 hO10 hg10 hv10 hone
          go_wp2
          go_roundw
          case rel => exact ⟨j + 1, by omega, by go_num, HR10.out, HB10.out⟩
          case measure => simp [intOf]; omega
        · obtain rfl : N = j := by omega
          obtain ⟨gR, cR, eR, hnew⟩ := hraw.at_ hN0
          subst eR
          have hSX := HS.out.add (next HB4.out hbw) ((hnew.lower HB4.out.size).and (HPN.out.next hbw))
          have HSX : Hid (St w1.heap.size wq x l ds aw 64 (fun W => (OwnBl w1.heap.size W (.slice (some ⟨gV, 0, none⟩) x.n cV) (hereTo nA nL fA fL x.n) ∧ XQ x q bx W) ∧ RawsAt gR N R W ∧ PlA W gP q)) := Lib.hid hSX
          have HCq : Hid (Below w1.heap.size w1 wq) := Lib.hid (HCx.out.trans (hbw.mono HCx.out.size))
          have HBq : Hid (Below w.heap.size w wq) := Lib.hid (K2.out.h.below.trans (HCq.out.mono hz1))
          have HRF : Hid (∀ j, j < nP q → (R j).length = (LL l q z j).length ∧ SecSz (R j)) := Lib.hid fun j hj => by
            have h := HSX.out.rawP HPR.out j hj
            rw [HRR.out] at h
            exact ⟨h.len, h.secs⟩
          have hlr := refLook_any l x.sc _ wq (K2.out.next HCq.out).h.m q z HPR.out R gR cR (fun j hj => hnew.out.2 j (by rw [← HN.out]; exact hj)) HRF.out
          rw [HN.out] at hlr
          have HLKs : Hid (∀ W (P : World → Prop), St w1.heap.size W x l ds aw 64 P → Calls Tryz.prog 11 #[x.val, q.val] W fun e w' => e = .returned (lookV q.q (TT l x.sc q z R) R N) ∧ Below W.heap.size W w') := Lib.hid fun W P hW => by
            have := look_ok hW HPR.out
            rw [HRR.out, HN.out] at this
            exact this
          have dd2 : decide ((N : Int) < (N : Int)) = false := by simp
          obtain ⟨r, hr⟩ : ∃ r, lookTo q.q (TT l x.sc q z R) N = r := ⟨_, rfl⟩
          have HGq := Lib.hid (K2.out.next HCq.out)
          clear hraw hbw hnew hSX HRV HBW HSq HS4 HPL4 HPN HGP hlt
          obtain ⟨⟨g0, g1, _, _, _⟩, _⟩ := id HGq.out
          obtain ⟨⟨_, ⟨x0, x1, x2, x3⟩, ⟨p0, p1, p2, p3, p4, p5, p6, p7, p8, p9, p10, p11, _⟩⟩, _, _⟩ := HSX.out.out
          cases r with
          | none =>
            obtain ⟨er, her⟩ : ∃ er, errV R N = er := ⟨_, rfl⟩
            rw [refV_none hr, show (if lostTo R N then (6 : Int) else 4) = errV R N from rfl, her] at hlr
            have HLR := Lib.hid hlr
            have HLK : Hid (∀ W (P : World → Prop), St w1.heap.size W x l ds aw 64 P → Calls Tryz.prog 11 #[x.val, q.val] W fun e w' => e = .returned (.tuple #[noCame, .int .i64 er]) ∧ Below W.heap.size W w') := Lib.hid fun W P hW => by
              have := HLKs.out W P hW
              rw [lookV_none hr, her] at this
              exact this
            have hr0 : lookTo q.q (TT l x.sc q z (RW ds aw l q z)) (nP q) = none := by rw [HRR.out, HN.out]; exact hr
            have HWH : Hid (∀ W (P : World → Prop), St w1.heap.size W x l ds aw 64 P → Calls Tryz.prog 18 #[x.val, q.val] W fun e w' => e = .returned (.bool false) ∧ Below W.heap.size W w') := Lib.hid fun W P hW => whole_no hW HPR.out hr0
            have HRD : Hid (∀ W (P : World → Prop), St w1.heap.size W x l ds aw 64 P → Calls Tryz.prog 12 #[x.val, q.val] W fun e w' => e = .returned (.tuple #[noCame, .int .i64 er]) ∧ Below W.heap.size W w') := Lib.hid fun W P hW => by
              have := hread_no hW HPR.out hr0
              rw [HRR.out, HN.out, her] at this
              exact this
            have HSC : Hid (∀ W (P : World → Prop), St w1.heap.size W x l ds aw 64 P → Calls Tryz.prog 13 #[x.val, q.val] W fun e w' => e = .returned (.tuple #[noCame, .int .i64 er]) ∧ Below W.heap.size W w') := Lib.hid fun W P hW => by
              have := hscrub_no hW HPR.out hr0
              rw [HRR.out, HN.out, her] at this
              exact this
            unfold Ptr.val Ptr.cells at HLR
            unfold Ptr.val Ptr.cells Px.val noCame at HLK HRD HSC
            unfold Ptr.val Ptr.cells Px.val at HWH
            have hne := (errV_ne R N).1
            have hne2 := (errV_ne R N).2.1
            rw [her] at hne hne2
            have hee : (er == er) = true := beq_self_eq_true _
            have hem : (er != er) = false := by simp
            have hnl : (⟨#[]⟩ : ByteArray).toList = [] := by rw [ByteArray.toList_eq]
            clear hr0 hr her hlr HLKs
            go_wp2_with fail
            refine HLR.out.mono ?_
            rintro e w5 ⟨rfl, c5⟩
            have HS5 := Lib.hid (HSX.out.below c5)
            have HB5 := Lib.hid (next HBq.out c5)
            clear g0 g1 x0 x1 x2 x3 p0 p1 p2 p3 p4 p5 p6 p7 p8 p9 p10 p11 c5 HLR
            obtain ⟨⟨_, ⟨x0, x1, x2, x3⟩, ⟨p0, p1, p2, p3, p4, p5, p6, p7, p8, p9, p10, p11, _⟩⟩, _, _⟩ := HS5.out.out
            go_wp2_with fail
            refine (HWH.out _ _ HS5.out).mono ?_
            rintro e w6 ⟨rfl, c6⟩
            have HS6 := Lib.hid (HS5.out.below c6)
            have HB6 := Lib.hid (next HB5.out c6)
            clear x0 x1 x2 x3 p0 p1 p2 p3 p4 p5 p6 p7 p8 p9 p10 p11 c6 HWH HS5
            obtain ⟨⟨_, ⟨x0, x1, x2, x3⟩, ⟨p0, p1, p2, p3, p4, p5, p6, p7, p8, p9, p10, p11, _⟩⟩, _, _⟩ := HS6.out.out
            go_wp2_with fail
            refine (HLK.out _ _ HS6.out).mono ?_
            rintro e w7 ⟨rfl, c7⟩
            have h8 := HS6.out.below (next c7 (boxed w7 (.cells #[.string ⟨#[]⟩, .int .i64 0, .int .i64 0, .int .i64 0] 45)))
            have HS8 := Lib.hid h8
            have HB8 := Lib.hid (next (next HB6.out c7) (boxed w7 (.cells #[.string ⟨#[]⟩, .int .i64 0, .int .i64 0, .int .i64 0] 45)))
            clear x0 x1 x2 x3 p0 p1 p2 p3 p4 p5 p6 p7 p8 p9 p10 p11 c7 h8 HLK HS6
            obtain ⟨⟨_, ⟨x0, x1, x2, x3⟩, ⟨p0, p1, p2, p3, p4, p5, p6, p7, p8, p9, p10, p11, _⟩⟩, _, _⟩ := HS8.out.out
            go_wp2_with fail
            refine (HRD.out _ _ HS8.out).mono ?_
            rintro e w9 ⟨rfl, c9⟩
            have hs9 : w.heap.size ≤ w9.heap.size := (next HB8.out c9).size
            have h10 := (HS8.out.below c9).add (boxed w9 (.cells #[.string ⟨#[]⟩, .int .i64 0, .int .i64 0, .int .i64 0] 45)) (CameC.new w9 ⟨#[]⟩ 0 0 0 _ (Nat.le_refl _))
            have HS10 := Lib.hid h10
            have HB10 := Lib.hid (next (next HB8.out c9) (boxed w9 (.cells #[.string ⟨#[]⟩, .int .i64 0, .int .i64 0, .int .i64 0] 45)))
            clear x0 x1 x2 x3 p0 p1 p2 p3 p4 p5 p6 p7 p8 p9 p10 p11 c9 h10 HRD HS8
            cases scrub with
            | false =>
              go_wp2
              go_ret
              exact ⟨rfl, HB10.out⟩
            | true =>
              obtain ⟨⟨⟨_, ⟨x0, x1, x2, x3⟩, ⟨p0, p1, p2, p3, p4, p5, p6, p7, p8, p9, p10, p11, _⟩⟩, _, _⟩, _⟩ := HS10.out.out
              go_wp2_with fail
              refine (HSC.out _ _ HS10.out).mono ?_
              rintro e w11 ⟨rfl, c11⟩
              have HS12 := Lib.hid (HS10.out.below c11)
              have HB12 := Lib.hid (next HB10.out c11)
              clear x0 x1 x2 x3 p0 p1 p2 p3 p4 p5 p6 p7 p8 p9 p10 p11 c11 HSC HS10
              obtain ⟨_, ⟨b0, b1, b2, b3, f0, f1, f2, f3⟩⟩ := HS12.out.out
              have HBF : Hid (Below w.heap.size w (putC w11 w9.heap.size ⟨#[]⟩ 0 0 0)) := Lib.hid (HB12.out.trans ((putC_turn w11 w9.heap.size ⟨#[]⟩ 0 0 0).below (fun k hk => by omega) HB12.out.size))
              unfold putC at HBF
              go_wp2
              go_ret
              exact ⟨rfl, HBF.out⟩
          | some r =>
            obtain ⟨i, d, t⟩ := r
            rw [refV_some hr] at hlr
            have HLR := Lib.hid hlr
            have HLK : Hid (∀ W (P : World → Prop), St w1.heap.size W x l ds aw 64 P → Calls Tryz.prog 11 #[x.val, q.val] W fun e w' => e = .returned (.tuple #[.agg #[.string t, .int .i64 (i : Int), .int .i64 d, .int .i64 0], .int .i64 0]) ∧ Below W.heap.size W w') := Lib.hid fun W P hW => by
              have := HLKs.out W P hW
              rw [lookV_some hr] at this
              exact this
            have hr0 : lookTo q.q (TT l x.sc q z (RW ds aw l q z)) (nP q) = some (i, d, t) := by rw [HRR.out, HN.out]; exact hr
            obtain ⟨fa, hfa⟩ : ∃ fa, fineAll l ds aw q z t (nP q) = fa := ⟨_, rfl⟩
            have HWH : Hid (∀ W (P : World → Prop), St w1.heap.size W x l ds aw 64 P → Calls Tryz.prog 18 #[x.val, q.val] W fun e w' => e = .returned (.bool fa) ∧ Below W.heap.size W w') := Lib.hid fun W P hW => whole_ok hW HPR.out hr0 fa hfa
            have HFA : Hid (wholeTo l ds aw q z t N = fa) := Lib.hid (by rw [← hfa, HN.out]; rfl)
            obtain ⟨hin0, hhit, _⟩ := lookTo_some hr0
            have hin : i < N := by rw [← HN.out]; exact hin0
            have hts : t.size = z * 64 := (HSX.out.calls HPR.out).sz i hin0 (d, t) (hitQ_some hhit).1
            obtain ⟨i2, d2, hf2⟩ := HPR.out.again HSX.out.right.2 (HSX.out.rawP HPR.out) hr0 hts
            obtain ⟨hi2, _, _⟩ := lookTo_some hf2
            obtain ⟨N1, hN1⟩ : ∃ N1, sumC false i (unlP l aw q z t ds) N = N1 := ⟨_, rfl⟩
            obtain ⟨N2, hN2'⟩ : ∃ N2, sumC true i (unlP l aw q z t ds) N = N2 := ⟨_, rfl⟩
            obtain ⟨dsR, hdsR⟩ : ∃ dsR, readS l aw q z t ds i = dsR := ⟨_, rfl⟩
            have HRD : Hid (∀ W (P : World → Prop), St w1.heap.size W x l ds aw 64 P → Calls Tryz.prog 12 #[x.val, q.val] W fun e w' => e = .returned (.tuple #[.agg #[.string t, .int .i64 (i : Int), .int .i64 d, .int .i64 (N1 : Int)], .int .i64 0]) ∧ St w1.heap.size w' x l dsR aw 128 P ∧ Below w1.heap.size W w') := Lib.hid fun W P hW =>
              (hread_ok hW HPR.out hr0 (by omega)).mono fun e w' ⟨h1, h2, h3⟩ => by
                rw [HPR.out.readSum hin0, HN.out, hN1] at h1
                rw [hdsR] at h2
                exact ⟨h1, h2, h3⟩
            have HSC : Hid (∀ W (P : World → Prop), St w1.heap.size W x l dsR aw 128 P → Calls Tryz.prog 13 #[x.val, q.val] W fun e w' => e = .returned (.tuple #[.agg #[.string t, .int .i64 (i2 : Int), .int .i64 d2, .int .i64 (N2 : Int)], .int .i64 0]) ∧ (∃ ds', St w1.heap.size w' x l ds' aw 256 P) ∧ Below w1.heap.size W w') := Lib.hid fun W P hW => by
              rw [hdsR] at hf2
              refine (hscrub_ok hW HPR.out hf2 (by omega)).mono fun e w' ⟨h1, h2, h3⟩ => ?_
              rw [← hdsR, HPR.out.scrubSum HSX.out.right.2 hin0 hi2, HN.out, hN2'] at h1
              exact ⟨h1, ⟨_, h2⟩, h3⟩
            have HNC : Hid ((if scrub then N2 else N1) = sumC scrub i (unlP l aw q z t ds) N) := Lib.hid (by cases scrub <;> simp [hN1, hN2'])
            have HTS := Lib.hid hts
            have HHR := Lib.hid hr0
            unfold Ptr.val Ptr.cells at HLR
            unfold Ptr.val Ptr.cells Px.val at HLK HRD HSC HWH
            have htt : (t.toList == t.toList) = true := beq_self_eq_true _
            have htn : (t.toList != t.toList) = false := by unfold bne; rw [htt]; rfl
            have hii : ((i : Int) == (i : Int)) = true := beq_self_eq_true _
            have hin2 : ((i : Int) != (i : Int)) = false := by simp
            have hdn2 : (d != d) = false := by simp
            clear hr0 hr hlr HLKs hfa hin0 hhit hts hf2 hi2 hN1 hN2' hdsR
            go_wp2_with fail
            refine HLR.out.mono ?_
            rintro e w5 ⟨rfl, c5⟩
            have HS5 := Lib.hid (HSX.out.below c5)
            have HC5 := Lib.hid (HCq.out.trans (c5.mono HCq.out.size))
            clear g0 g1 x0 x1 x2 x3 p0 p1 p2 p3 p4 p5 p6 p7 p8 p9 p10 p11 c5 HLR
            obtain ⟨⟨_, ⟨x0, x1, x2, x3⟩, ⟨p0, p1, p2, p3, p4, p5, p6, p7, p8, p9, p10, p11, _⟩⟩, _, _⟩ := HS5.out.out
            go_wp2_with fail
            refine (HWH.out _ _ HS5.out).mono ?_
            rintro e w6 ⟨rfl, c6⟩
            have HS6 := Lib.hid (HS5.out.below c6)
            have HC6 := Lib.hid (HC5.out.trans (c6.mono HC5.out.size))
            clear x0 x1 x2 x3 p0 p1 p2 p3 p4 p5 p6 p7 p8 p9 p10 p11 c6 HWH HS5 HC5
            obtain ⟨⟨_, ⟨x0, x1, x2, x3⟩, ⟨p0, p1, p2, p3, p4, p5, p6, p7, p8, p9, p10, p11, _⟩⟩, _, _⟩ := HS6.out.out
            go_wp2_with fail
            refine (HLK.out _ _ HS6.out).mono ?_
            rintro e w7 ⟨rfl, c7⟩
            have c8 := next c7 (boxed w7 (.cells #[.string t, .int .i64 (i : Int), .int .i64 d, .int .i64 0] 45))
            have HS8 := Lib.hid (HS6.out.below c8)
            have HC8 := Lib.hid (HC6.out.trans (c8.mono HC6.out.size))
            clear x0 x1 x2 x3 p0 p1 p2 p3 p4 p5 p6 p7 p8 p9 p10 p11 c7 c8 HLK HS6 HC6
            obtain ⟨⟨_, ⟨x0, x1, x2, x3⟩, ⟨p0, p1, p2, p3, p4, p5, p6, p7, p8, p9, p10, p11, _⟩⟩, _, _⟩ := HS8.out.out
            go_wp2_with fail
            refine (HRD.out _ _ HS8.out).mono ?_
            rintro e w9 ⟨rfl, h9, c9⟩
            have h10 := h9.mine (boxed w9 (.cells #[.string t, .int .i64 (i : Int), .int .i64 d, .int .i64 (N1 : Int)] 45)) w9.heap.size (Nat.le_refl _) (CameC.new w9 t (i : Int) d (N1 : Int) w9.heap.size (Nat.le_refl _))
            have hbb : w1.heap.size ≤ w9.heap.size := h9.lt.2
            have HC10 := Lib.hid ((HC8.out.trans c9).trans ((boxed w9 (.cells #[.string t, .int .i64 (i : Int), .int .i64 d, .int .i64 (N1 : Int)] 45)).mono hbb))
            have HS10 := Lib.hid h10
            clear x0 x1 x2 x3 p0 p1 p2 p3 p4 p5 p6 p7 p8 p9 p10 p11 c9 h9 h10 HRD HS8 HC8
            go_upto_if 191 with (fail)
            obtain ⟨w10, hw10⟩ : ∃ w10, w9.alloc (.cells #[.string t, .int .i64 (i : Int), .int .i64 d, .int .i64 (N1 : Int)] 45) = w10 := ⟨_, rfl⟩
            rw [hw10] at HC10 HS10 ⊢
            clear hw10
            obtain ⟨bb, hbe⟩ : ∃ bb, w9.heap.size = bb := ⟨_, rfl⟩
            rw [hbe] at HS10 hbb ⊢
            clear hbe
            obtain ⟨Nf, hNf⟩ : ∃ Nf, sumC scrub i (unlP l aw q z t ds) N = Nf := ⟨_, rfl⟩
            rw [hNf] at HNC
            have HNF := Lib.hid hNf
            clear hNf
            go_cut [36] from 192 to 197 (fun s36 wc => s36 = .int .i64 0 ∧ ∃ (ds' : Nat → Dv) (i' : Nat) (d' : Int), Hid (St w1.heap.size wc x l ds' aw 256 (fun W => PB x l bb (fun W => (OwnBl w1.heap.size W (.slice (some ⟨gV, 0, none⟩) x.n cV) (hereTo nA nL fA fL x.n) ∧ XQ x q bx W) ∧ RawsAt gR N R W ∧ PlA W gP q) W ∧ CameC bb t (i' : Int) d' (Nf : Int) W)) ∧ Hid (Below w1.heap.size w1 wc))
            case first =>
              cases scrub with
              | false =>
                have hN : N1 = Nf := HNC.out
                subst hN
                go_wp2
                go_meet
                exact ⟨rfl, _, _, _, Lib.hid (HS10.out.more (by omega)), HC10⟩
              | true =>
                have hN : N2 = Nf := HNC.out
                subst hN
                obtain ⟨⟨_, ⟨x0, x1, x2, x3⟩, ⟨p0, p1, p2, p3, p4, p5, p6, p7, p8, p9, p10, p11, _⟩⟩, _, _⟩ := HS10.out.out.1.out
                go_wp2_with fail
                refine (HSC.out _ _ HS10.out).mono ?_
                rintro e w11 ⟨rfl, ⟨ds', h11⟩, c11⟩
                (try dsimp only)
                obtain ⟨hwr, _⟩ := h11.write (fun W h => h.c0) (putC_turn w11 bb t (i2 : Int) d2 (N2 : Int)) (fun W e => (h11.out.2.put t (i2 : Int) d2 (N2 : Int)).of e)
                have hbw : Below w1.heap.size w1 (putC w11 bb t (i2 : Int) d2 (N2 : Int)) := (HC10.out.trans c11).trans ((putC_turn w11 bb t (i2 : Int) d2 (N2 : Int)).below (fun k hk => by omega) (HC10.out.trans c11).size)
                have HWR := Lib.hid hwr
                have HBW := Lib.hid hbw
                obtain ⟨_, ⟨b0, b1, b2, b3, f0, f1, f2, f3⟩⟩ := h11.out
                clear x0 x1 x2 x3 p0 p1 p2 p3 p4 p5 p6 p7 p8 p9 p10 p11 c11 h11 hwr hbw
                unfold putC at HWR HBW
                go_wp2
                go_meet
                exact ⟨rfl, _, _, _, HWR, HBW⟩
            case rest =>
              obtain ⟨rfl, ds', i', d', HS11, HC11⟩ := hcut
              generalize hw11 : wc = w11 at *
              clear hw11
              have hP0 := HS11.out.out.1.out
              have hC0 := HS11.out.out.2
              have hG0 := K2.out.next HC11.out
              have HF0 : Hid (PlF a gn gc x.sc l w.heap.size (bx + 1) q.sz gR N R gP q gV x.n (hereB ds aw) bb t (Nf : Int) w11) := Lib.hid ⟨hG0.h.c0, hG0.h.c1, hG0.h.m, hP0.1.2.q.c5, hP0.2.1, hP0.2.2, by rw [HHB.out]; exact HHV.out w11 hP0.1.1, hC0.c0, hC0.c3⟩
              have HB11 := Lib.hid hG0.h.below
              have HNX : Hid (devsL l x.sc = (x.n : Int)) := Lib.hid HSX.out.right.2
              have b0 := HF0.out.b0
              clear hP0 hC0 hG0 HS11 HC11 HSC HS10 HC10 HSX HCq HGq HHV HHB HCx HBq
              have dfw : ((0 : Int) != 0) = false := rfl
              go_wp2_with fail
              clear b0
              go_loopw [37, 38, 39] (fun nv av iv wr => ∃ (k m : Nat) (b : Bool), k ≤ N ∧ m ≤ 32 * k ∧ nv = .int .i64 (m : Int) ∧ av = .bool b ∧ iv = .int .i64 (k : Int) ∧ Hid (sumC scrub i (unlP l aw q z t ds) k = m) ∧ Hid (wholeTo l ds aw q z t k = b) ∧ Below w11.heap.size w11 wr) (fun _ _ iv _ => N - (intOf iv).toNat)
              case atStart => exact ⟨0, 0, true, Nat.zero_le _, Nat.zero_le _, rfl, rfl, rfl, Lib.hid rfl, Lib.hid rfl, Below.refl _ _⟩
              case round =>
                obtain ⟨k, m, b, hk, hm, rfl, rfl, rfl, HSM, HWT, hbw⟩ := hrel
                rename World => wr
                have HBW := Lib.hid hbw
                have HF := Lib.hid (HF0.out.next hbw)
                clear hbw
                by_cases hlt : k < N
                · have hkn : k < nP q := by rw [HN.out]; exact hlt
                  obtain ⟨hat, hblk⟩ := HPR.out.blk k hkn
                  obtain ⟨kk, u, hE⟩ := hblk.enc7 HTS.out
                  have HUL := Lib.hid (unlP_le HPR.out aw t ds hkn)
                  have HEN : Hid (∀ W, Meas W (.agg #[.slice a gn gc, .int .i64 x.sc]) l x.sc → Calls Tryz.prog 24 #[.agg #[.slice a gn gc, .int .i64 x.sc], .agg #[.int .i64 (kN q k : Int), .int .i64 (tN q k : Int)], .string t] W fun e w' => ∃ v', e = .returned v' ∧ Own w' W.heap.size v' (EE l q z t k) ∧ Below W.heap.size W w') := Lib.hid fun W hW => by
                    have := refEncode_any l x.sc _ W hW _ _ _ _ _ _ _ _ hE
                    rw [← hE.enc] at this
                    exact this
                  have HOF : Hid (∀ W, Meas W (.agg #[.slice a gn gc, .int .i64 x.sc]) l x.sc → Calls Tryz.prog 23 #[.agg #[.slice a gn gc, .int .i64 x.sc], .agg #[.int .i64 (kN q k : Int), .int .i64 (tN q k : Int)], .int .i64 q.sz] W fun e w' => ∃ v', e = .returned v' ∧ OwnC W.heap.size w' v' (LL l q z k) ∧ Below W.heap.size W w') := Lib.hid fun W hW => by
                    have C := refOf_any l x.sc _ W hW _ _ _ hblk
                    rw [← HPR.out.sz] at C
                    exact C
                  have hputs := hblk.puts HTS.out HNX.out
                  have HEL : Hid ((EE l q z t k).length = (LL l q z k).length) := Lib.hid hputs.len
                  have HRL := Lib.hid (HRF.out k hkn).1
                  have h32L : (LL l q z k).length ≤ 32 := hputs.few
                  have hposL : 0 < (LL l q z k).length := hputs.pos
                  obtain ⟨U, hU⟩ : ∃ U, unlP l aw q z t ds k = U := ⟨_, rfl⟩
                  have hU32 : U ≤ 32 := by rw [← hU]; exact HUL.out
                  have HUN : Hid (∀ W vL vE vG, ColsV W vL (LL l q z k) → Txt W vE (EE l q z t k) → Txt W vG (R k) → HereV W gV x.n (hereB ds aw) → Calls Tryz.prog 22 #[vL, vE, vG, .slice (some ⟨gV, 0, none⟩) x.n cV] W fun e w' => e = .returned (.int .i64 (U : Int)) ∧ Below W.heap.size W w') := Lib.hid fun W vL vE vG h1 h2 h3 h4 => by
                    have C := refUnlike_any (LL l q z k) vL (EE l q z t k) (R k) vE vG (hereB ds aw) gV x.n cV W h1 h2 h3 h4 hputs.len HRL.out hposL h32L hputs.dev
                    rw [← HRR.out] at C
                    rw [← hU]
                    exact C
                  have HSN : Hid (sumC scrub i (unlP l aw q z t ds) (k + 1) = m + if condB scrub k i then U else 0) := Lib.hid (by rw [← HSM.out, ← hU]; rfl)
                  have HFI : Hid (fineAt l ds aw q z t k = matchTo (EE l q z t k) (R k) (LL l q z k).length) := Lib.hid (by rw [fineAt_match, ← HRR.out])
                  have hpa := HF.out.pl.2 k hkn
                  rw [hat] at hpa
                  obtain ⟨e0, e1⟩ := hpa
                  obtain ⟨vk, hvc, htx⟩ := HF.out.r.2 k hlt
                  obtain ⟨ak, ck, rfl, hck, hjk⟩ := id htx
                  rw [HRL.out] at hvc hck
                  obtain ⟨mL, hmL⟩ : ∃ mL, (LL l q z k).length = mL := ⟨_, rfl⟩
                  have HML := Lib.hid hmL
                  rw [hmL] at hvc hck h32L hposL
                  have HTX : Hid (Txt wr (.slice ak mL ck) (R k)) := Lib.hid (by rw [← hmL, ← HRL.out]; exact htx)
                  have g0 := HF.out.g0
                  have g1 := HF.out.g1
                  have p5 := HF.out.p5
                  have HE : Hid (∀ W, Below wr.heap.size wr W → (W.cell? ⟨w.heap.size, 0, none⟩ = some (.slice a gn gc) ∧ W.cell? ⟨w.heap.size, 1, none⟩ = some (.int .i64 x.sc) ∧ W.cell? ⟨gP, k * 2, none⟩ = some (.int .i64 (kN q k : Int)) ∧ W.cell? ⟨gP, k * 2 + 1, none⟩ = some (.int .i64 (tN q k : Int)) ∧ W.cell? ⟨bx + 1, 5, none⟩ = some (.int .i64 q.sz) ∧ W.cell? ⟨gR, k, none⟩ = some (.slice ak mL ck))) := Lib.hid fun W hb =>
                    ⟨(hb.cell (p := ⟨w.heap.size, 0, none⟩) (World.block_lt_of_cell? wr _ g0)).trans g0, (hb.cell (p := ⟨w.heap.size, 1, none⟩) (World.block_lt_of_cell? wr _ g1)).trans g1, (hb.cell (p := ⟨gP, k * 2, none⟩) (World.block_lt_of_cell? wr _ e0)).trans e0, (hb.cell (p := ⟨gP, k * 2 + 1, none⟩) (World.block_lt_of_cell? wr _ e1)).trans e1, (hb.cell (p := ⟨bx + 1, 5, none⟩) (World.block_lt_of_cell? wr _ p5)).trans p5, (hb.cell (p := ⟨gR, k, none⟩) (World.block_lt_of_cell? wr _ hvc)).trans hvc⟩
                  have q1 : (k : Int) < (N : Int) := by omega
                  have q2 : (0 : Int) ≤ (k : Int) := by omega
                  have dd3 : decide ((k : Int) < (N : Int)) = true := by simpa using hlt
                  clear hkn hat hblk hE hputs hmL hU htx hjk HUL
                  go_upto_region 37 with (fail)
                  go_cut [40] from 216 to 236 (fun s40 wc => s40 = .int .i64 (U : Int) ∧ Hid (Below wr.heap.size wr wc))
                  case first =>
                    go_region_held3 (fun W => W.cell? ⟨w.heap.size, 0, none⟩ = some (.slice a gn gc) ∧ W.cell? ⟨w.heap.size, 1, none⟩ = some (.int .i64 x.sc) ∧ W.cell? ⟨gP, k * 2, none⟩ = some (.int .i64 (kN q k : Int)) ∧ W.cell? ⟨gP, k * 2 + 1, none⟩ = some (.int .i64 (tN q k : Int)) ∧ W.cell? ⟨bx + 1, 5, none⟩ = some (.int .i64 q.sz) ∧ W.cell? ⟨gR, k, none⟩ = some (.slice ak mL ck))
                      (first | exact ⟨g0, g1, e0, e1, p5, hvc⟩ | exact ⟨z0, z1, z2, z3, z4, z5⟩ | exact ⟨y0, y1, y2, y3, y4, y5⟩ | exact ⟨v0, v1, v2, v3, v4, v5⟩)
                      (first
                        | (go_at_call 23; (first | refine (HOF.out _ (HF.out.next HBE.out).m).mono ?_ | refine (HOF.out _ (HF.out.next (Below.refl _ wr).drew).m).mono ?_); rintro e wO ⟨vO, rfl, hO, bO⟩; have HBO : Hid (Below wr.heap.size wr wO) := (by first | exact Lib.hid (HBE.out.trans (bO.mono HBE.out.size)) | exact Lib.hid ((Below.refl _ wr).drew.trans bO)); obtain ⟨y0, y1, y2, y3, y4, y5⟩ := HE.out wO HBO.out; have HCO : Hid (∀ W, Below wO.heap.size wO W → ColsV W vO (LL l q z k)) := Lib.hid (fun W hb => (hO.below hb).v))
                        | (go_at_call 24; (first | refine (HEN.out _ (HF.out.next HBO.out).m).mono ?_ | refine (HEN.out _ (HF.out.next (Below.refl _ wr).drew).m).mono ?_); rintro e wE ⟨vE, rfl, hE, bE⟩; have HBE : Hid (Below wr.heap.size wr wE) := (by first | exact Lib.hid (HBO.out.trans (bE.mono HBO.out.size)) | exact Lib.hid ((Below.refl _ wr).drew.trans bE)); obtain ⟨z0, z1, z2, z3, z4, z5⟩ := HE.out wE HBE.out; have HCE : Hid (∀ W, Below wE.heap.size wE W → Txt W vE (EE l q z t k)) := Lib.hid (fun W hb => (hE.below hb).txt))
                        | (go_at_call 22; (first | refine (HUN.out wE vO vE _ (HCO.out wE bE) (HCE.out wE (Below.refl _ _)) (HTX.out.below HBE.out) (HF.out.next HBE.out).hv).mono ?_ | refine (HUN.out wO vO vE _ (HCO.out wO (Below.refl _ _)) (HCE.out wO bO) (HTX.out.below HBO.out) (HF.out.next HBO.out).hv).mono ?_); rintro e wU ⟨rfl, bU⟩; have HBU : Hid (Below wr.heap.size wr wU) := (by first | exact Lib.hid (HBE.out.trans (bU.mono HBE.out.size)) | exact Lib.hid (HBO.out.trans (bU.mono HBO.out.size))); obtain ⟨v0, v1, v2, v3, v4, v5⟩ := HE.out wU HBU.out))
                    all_goals
                      go_wp2_with fail
                      go_meet
                      exact ⟨rfl, HBU⟩
                  case rest =>
                    obtain ⟨rfl, HBU⟩ := hcut
                    generalize hwU : wc = wU at *
                    clear hwU
                    obtain ⟨cb, hcb⟩ : ∃ cb, condB scrub k i = cb := ⟨_, rfl⟩
                    have HCB := Lib.hid hcb
                    clear hcb e0 e1 g0 g1 p5 hvc HUN HOF
                    go_upto_region 38 with (fail)
                    go_cut [251] from 237 to 251 (fun s251 wx => s251 = .bool cb ∧ wx = wU)
                    case first =>
                      cases scrub with
                      | false =>
                        by_cases hki : k ≤ i
                        · obtain rfl : cb = true := by rw [← HCB.out]; simp [condB, hki]
                          have d5 : decide ((k : Int) ≤ (i : Int)) = true := by rw [decide_eq_true_iff]; omega
                          go_wp2
                          go_meet
                          exact ⟨rfl, rfl⟩
                        · obtain rfl : cb = false := by rw [← HCB.out]; simp [condB, hki]
                          have d5 : decide ((k : Int) ≤ (i : Int)) = false := by rw [decide_eq_false_iff_not]; omega
                          go_wp2
                          go_meet
                          exact ⟨rfl, rfl⟩
                      | true =>
                        by_cases hki : i < k
                        · obtain rfl : cb = true := by rw [← HCB.out]; simp [condB, hki]
                          have d5 : decide ((i : Int) < (k : Int)) = true := by rw [decide_eq_true_iff]; omega
                          go_wp2
                          go_meet
                          exact ⟨rfl, rfl⟩
                        · obtain rfl : cb = false := by rw [← HCB.out]; simp [condB, hki]
                          have d5 : decide ((i : Int) < (k : Int)) = false := by rw [decide_eq_false_iff_not]; omega
                          go_wp2
                          go_meet
                          exact ⟨rfl, rfl⟩
                    case rest =>
                      obtain ⟨rfl, rfl⟩ := hcut
                      obtain ⟨m2, hm2⟩ : ∃ m2, m + (if cb then U else 0) = m2 := ⟨_, rfl⟩
                      have HSN2 : Hid (sumC scrub i (unlP l aw q z t ds) (k + 1) = m2) := Lib.hid (by rw [HSN.out, HCB.out, hm2])
                      have hm3 : m2 ≤ 32 * (k + 1) := by rw [← hm2]; split <;> omega
                      have HM2 := Lib.hid hm2
                      clear hm2 HSN HCB
                      go_upto_if 251 with (fail)
                      go_cut [37] from 252 to 254 (fun s37 wv => s37 = .int .i64 (m2 : Int) ∧ wv = wc)
                      case first =>
                        cases cb with
                        | false =>
                          have hmm : m = m2 := HM2.out
                          subst hmm
                          go_wp2
                          go_meet
                          exact ⟨rfl, rfl⟩
                        | true =>
                          have hmm : m + U = m2 := HM2.out
                          have hw : IntKind.i64.wrap ((m : Int) + (U : Int)) = (m2 : Int) := by rw [IntKind.wrap_i64]; omega
                          clear hmm
                          go_wp2
                          go_meet
                          exact ⟨rfl, rfl⟩
                      case rest =>
                        obtain ⟨rfl, rfl⟩ := hcut
                        have HEN2 : Hid (∀ W, Below wr.heap.size wr W → Calls Tryz.prog 24 #[.agg #[.slice a gn gc, .int .i64 x.sc], .agg #[.int .i64 (kN q k : Int), .int .i64 (tN q k : Int)], .string t] W fun e w' => ∃ gE cE, e = .returned (.slice (some ⟨gE, 0, none⟩) mL cE) ∧ mL ≤ cE ∧ (∀ j, j < mL → w'.cell? ⟨gE, j, none⟩ = some (.string ((EE l q z t k).getD j ⟨#[]⟩))) ∧ Below W.heap.size W w') := Lib.hid fun W hW => by
                          refine (HEN.out W (HF.out.next hW).m).mono ?_
                          rintro e w' ⟨v', rfl, hO, hb⟩
                          obtain ⟨gE, cE, eE, hcE, _, _⟩ := own_ex hO (by rw [HEL.out, HML.out]; exact hposL)
                          have hE1 := HEL.out
                          have hE2 := HML.out
                          rw [eE] at hO
                          refine ⟨gE, cE, by rw [eE, hE1, hE2], by omega, fun j hj => own_in hO j (by omega), hb⟩
                        clear HEN
                        go_wp2_with fail
                        go_loopw [38, 41] (fun av jv wy => ∃ (j : Nat) (b' : Bool), j ≤ mL ∧ av = .bool b' ∧ jv = .int .i64 (j : Int) ∧ Hid ((b && matchTo (EE l q z t k) (R k) j) = b') ∧ Below wr.heap.size wr wy) (fun _ jv _ => mL - (intOf jv).toNat)
                        case atStart => exact ⟨0, b, Nat.zero_le _, rfl, rfl, Lib.hid (by rw [matchTo_zero, Bool.and_true]), HBU.out⟩
                        case round =>
                          obtain ⟨j, b', hj, rfl, rfl, HBJ, hby⟩ := hrel
                          rename World => wy
                          have HBY := Lib.hid hby
                          obtain ⟨g0, g1, e0, e1, _, hvc⟩ := HE.out wy hby
                          clear hby
                          by_cases hjl : j < mL
                          · have hjR : j < (R k).length := by rw [HRL.out, HML.out]; exact hjl
                            have r1 : (j : Int) < (mL : Int) := by omega
                            have r2 : (0 : Int) ≤ (j : Int) := by omega
                            have dj : decide ((j : Int) < (mL : Int)) = true := by simpa using hjl
                            cases b' with
                            | false =>
                              have HBN : Hid ((b && matchTo (EE l q z t k) (R k) (j + 1)) = false) := Lib.hid (by rw [matchTo_succ, ← Bool.and_assoc, HBJ.out, Bool.false_and])
                              clear hjR e0 e1 g0 g1
                              go_wp2_with fail
                              go_quiet (fail)
                              go_wp2
                              go_roundw
                              case rel => exact ⟨j + 1, false, by omega, rfl, by go_num, HBN, below_drewN HBY.out _⟩
                              case measure => simp [intOf]; omega
                            | true =>
                              obtain ⟨xj, hxj⟩ : ∃ xj, (R k)[j] = xj := ⟨_, rfl⟩
                              obtain ⟨yj, hyj⟩ : ∃ yj, (EE l q z t k).getD j ⟨#[]⟩ = yj := ⟨_, rfl⟩
                              obtain ⟨ev, hev⟩ : ∃ ev, (xj.toList == yj.toList) = ev := ⟨_, rfl⟩
                              have HBN : Hid ((b && matchTo (EE l q z t k) (R k) (j + 1)) = ev) := Lib.hid (by rw [matchTo_succ, ← Bool.and_assoc, HBJ.out, Bool.true_and, getD_some ⟨hjR, hxj⟩, hyj, hev])
                              obtain ⟨ax, cx, ex, hcx, hjx⟩ := id HTX.out
                              simp only [Value.slice.injEq] at ex
                              obtain ⟨rfl, _, rfl⟩ := ex
                              obtain ⟨gx, ox, ea, hgx, hxc⟩ := hjx j hjR
                              subst ea
                              rw [hxj] at hxc
                              have hxy := (HBY.out.cell (p := ⟨gx, ox + j, none⟩) hgx).trans hxc
                              have HEC : Hid (∀ W, Below wr.heap.size wr W → Calls Tryz.prog 24 #[.agg #[.slice a gn gc, .int .i64 x.sc], .agg #[.int .i64 (kN q k : Int), .int .i64 (tN q k : Int)], .string t] W fun e w' => ∃ gE cE, e = .returned (.slice (some ⟨gE, 0, none⟩) mL cE) ∧ mL ≤ cE ∧ w'.cell? ⟨gE, j, none⟩ = some (.string yj) ∧ Below W.heap.size W w') := Lib.hid fun W hW => (HEN2.out W hW).mono fun e w' ⟨gE, cE, h1, h2, h3, h4⟩ => ⟨gE, cE, h1, h2, by rw [h3 j hjl, hyj], h4⟩
                              have HXX : Hid (∀ W, Below wy.heap.size wy W → W.cell? ⟨gx, ox + j, none⟩ = some (.string xj) ∧ W.cell? ⟨gR, k, none⟩ = some (.slice (some ⟨gx, ox, none⟩) mL ck)) := Lib.hid fun W hW => ⟨(hW.cell (p := ⟨gx, ox + j, none⟩) (World.block_lt_of_cell? wy _ hxy)).trans hxy, (hW.cell (p := ⟨gR, k, none⟩) (World.block_lt_of_cell? wy _ hvc)).trans hvc⟩
                              clear hxj hyj hjx hxc hjR
                              go_upto_region 43 with (fail)
                              refine wp_region_S 21 (fun W => W.cell? ⟨w.heap.size, 0, none⟩ = some (.slice a gn gc) ∧ W.cell? ⟨w.heap.size, 1, none⟩ = some (.int .i64 x.sc) ∧ W.cell? ⟨gP, k * 2, none⟩ = some (.int .i64 (kN q k : Int)) ∧ W.cell? ⟨gP, k * 2 + 1, none⟩ = some (.int .i64 (tN q k : Int)) ∧ W.cell? ⟨gR, k, none⟩ = some (.slice (some ⟨gx, ox, none⟩) mL ck) ∧ W.cell? ⟨gx, ox + j, none⟩ = some (.string xj)) (by kernel_rfl) ?_
                              have hS : wy.drew.cell? ⟨w.heap.size, 0, none⟩ = some (.slice a gn gc) ∧ wy.drew.cell? ⟨w.heap.size, 1, none⟩ = some (.int .i64 x.sc) ∧ wy.drew.cell? ⟨gP, k * 2, none⟩ = some (.int .i64 (kN q k : Int)) ∧ wy.drew.cell? ⟨gP, k * 2 + 1, none⟩ = some (.int .i64 (tN q k : Int)) ∧ wy.drew.cell? ⟨gR, k, none⟩ = some (.slice (some ⟨gx, ox, none⟩) mL ck) ∧ wy.drew.cell? ⟨gx, ox + j, none⟩ = some (.string xj) := ⟨g0, g1, e0, e1, hvc, hxy⟩
                              refine wpAnyS_takeD (i := 0) 264 (.bool true) rfl rfl (by kernel_rfl) (by kernel_rfl) (by kernel_rfl) (by kernel_rfl) (fun _ _ _ h => h) (by rfl) (fun w' hw' => ?_) hS ?_
                              · (obtain ⟨s0, s1, s2, s3, s4, s5⟩ := hw'; go_simp)
                              (try simp only [Act.put, List.setIfInBounds_toArray, List.set_cons_zero, List.set_cons_succ])
                              refine wpAnyS_takeD (i := 1) 265 (.bool true) rfl rfl (by kernel_rfl) (by kernel_rfl) (by kernel_rfl) (by kernel_rfl) (fun _ _ _ h => h) (by rfl) (fun w' hw' => ?_) hS ?_
                              · (obtain ⟨s0, s1, s2, s3, s4, s5⟩ := hw'; go_simp)
                              (try simp only [Act.put, List.setIfInBounds_toArray, List.set_cons_zero, List.set_cons_succ])
                              refine wpAnyS_takeD (i := 2) 266 (.slice (some ⟨gR, 0, none⟩) N cR) rfl rfl (by kernel_rfl) (by kernel_rfl) (by kernel_rfl) (by kernel_rfl) (fun _ _ _ h => h) (by rfl) (fun w' hw' => ?_) hS ?_
                              · (obtain ⟨s0, s1, s2, s3, s4, s5⟩ := hw'; go_simp)
                              (try simp only [Act.put, List.setIfInBounds_toArray, List.set_cons_zero, List.set_cons_succ])
                              refine wpAnyS_takeD (i := 3) 267 (.int .i64 (k : Int)) rfl rfl (by kernel_rfl) (by kernel_rfl) (by kernel_rfl) (by kernel_rfl) (fun _ _ _ h => h) (by rfl) (fun w' hw' => ?_) hS ?_
                              · (obtain ⟨s0, s1, s2, s3, s4, s5⟩ := hw'; go_simp)
                              (try simp only [Act.put, List.setIfInBounds_toArray, List.set_cons_zero, List.set_cons_succ])
                              refine wpAnyS_takeD (i := 4) 268 (.pointer (some ⟨gR, k, none⟩)) rfl rfl (by kernel_rfl) (by kernel_rfl) (by kernel_rfl) (by kernel_rfl) (fun _ _ _ h => h) (by rfl) (fun w' hw' => ?_) hS ?_
                              · (obtain ⟨s0, s1, s2, s3, s4, s5⟩ := hw'; go_simp)
                              (try simp only [Act.put, List.setIfInBounds_toArray, List.set_cons_zero, List.set_cons_succ])
                              refine wpAnyS_takeD (i := 5) 269 (.slice (some ⟨gx, ox, none⟩) mL ck) rfl rfl (by kernel_rfl) (by kernel_rfl) (by kernel_rfl) (by kernel_rfl) (fun _ _ _ h => h) (by rfl) (fun w' hw' => ?_) hS ?_
                              · (obtain ⟨s0, s1, s2, s3, s4, s5⟩ := hw'; go_simp)
                              (try simp only [Act.put, List.setIfInBounds_toArray, List.set_cons_zero, List.set_cons_succ])
                              refine wpAnyS_takeD (i := 6) 270 (.int .i64 (j : Int)) rfl rfl (by kernel_rfl) (by kernel_rfl) (by kernel_rfl) (by kernel_rfl) (fun _ _ _ h => h) (by rfl) (fun w' hw' => ?_) hS ?_
                              · (obtain ⟨s0, s1, s2, s3, s4, s5⟩ := hw'; go_simp)
                              (try simp only [Act.put, List.setIfInBounds_toArray, List.set_cons_zero, List.set_cons_succ])
                              refine wpAnyS_takeD (i := 7) 271 (.pointer (some ⟨gx, ox + j, none⟩)) rfl rfl (by kernel_rfl) (by kernel_rfl) (by kernel_rfl) (by kernel_rfl) (fun _ _ _ h => h) (by rfl) (fun w' hw' => ?_) hS ?_
                              · (obtain ⟨s0, s1, s2, s3, s4, s5⟩ := hw'; go_simp)
                              (try simp only [Act.put, List.setIfInBounds_toArray, List.set_cons_zero, List.set_cons_succ])
                              refine wpAnyS_takeD (i := 8) 272 (.string xj) rfl rfl (by kernel_rfl) (by kernel_rfl) (by kernel_rfl) (by kernel_rfl) (fun _ _ _ h => h) (by rfl) (fun w' hw' => ?_) hS ?_
                              · (obtain ⟨s0, s1, s2, s3, s4, s5⟩ := hw'; go_simp)
                              (try simp only [Act.put, List.setIfInBounds_toArray, List.set_cons_zero, List.set_cons_succ])
                              refine wpAnyS_takeD (i := 9) 273 (.agg #[.slice a gn gc, .int .i64 x.sc]) rfl rfl (by kernel_rfl) (by kernel_rfl) (by kernel_rfl) (by kernel_rfl) (fun _ _ _ h => h) (by rfl) (fun w' hw' => ?_) hS ?_
                              · (obtain ⟨s0, s1, s2, s3, s4, s5⟩ := hw'; go_simp)
                              (try simp only [Act.put, List.setIfInBounds_toArray, List.set_cons_zero, List.set_cons_succ])
                              refine wpAnyS_takeD (i := 10) 274 (.slice (some ⟨gP, 0, none⟩) N N) rfl rfl (by kernel_rfl) (by kernel_rfl) (by kernel_rfl) (by kernel_rfl) (fun _ _ _ h => h) (by rfl) (fun w' hw' => ?_) hS ?_
                              · (obtain ⟨s0, s1, s2, s3, s4, s5⟩ := hw'; go_simp)
                              (try simp only [Act.put, List.setIfInBounds_toArray, List.set_cons_zero, List.set_cons_succ])
                              refine wpAnyS_takeD (i := 11) 275 (.int .i64 (k : Int)) rfl rfl (by kernel_rfl) (by kernel_rfl) (by kernel_rfl) (by kernel_rfl) (fun _ _ _ h => h) (by rfl) (fun w' hw' => ?_) hS ?_
                              · (obtain ⟨s0, s1, s2, s3, s4, s5⟩ := hw'; go_simp)
                              (try simp only [Act.put, List.setIfInBounds_toArray, List.set_cons_zero, List.set_cons_succ])
                              refine wpAnyS_takeD (i := 12) 276 (.pointer (some ⟨gP, k * 2, none⟩)) rfl rfl (by kernel_rfl) (by kernel_rfl) (by kernel_rfl) (by kernel_rfl) (fun _ _ _ h => h) (by rfl) (fun w' hw' => ?_) hS ?_
                              · (obtain ⟨s0, s1, s2, s3, s4, s5⟩ := hw'; go_simp)
                              (try simp only [Act.put, List.setIfInBounds_toArray, List.set_cons_zero, List.set_cons_succ])
                              refine wpAnyS_takeD (i := 13) 277 (.agg #[.int .i64 (kN q k : Int), .int .i64 (tN q k : Int)]) rfl rfl (by kernel_rfl) (by kernel_rfl) (by kernel_rfl) (by kernel_rfl) (fun _ _ _ h => h) (by rfl) (fun w' hw' => ?_) hS ?_
                              · (obtain ⟨s0, s1, s2, s3, s4, s5⟩ := hw'; go_simp)
                              (try simp only [Act.put, List.setIfInBounds_toArray, List.set_cons_zero, List.set_cons_succ])
                              refine wpAnyS_takeD (i := 14) 278 (.string t) rfl rfl (by kernel_rfl) (by kernel_rfl) (by kernel_rfl) (by kernel_rfl) (fun _ _ _ h => h) (by rfl) (fun w' hw' => ?_) hS ?_
                              · (obtain ⟨s0, s1, s2, s3, s4, s5⟩ := hw'; go_simp)
                              (try simp only [Act.put, List.setIfInBounds_toArray, List.set_cons_zero, List.set_cons_succ])
                              refine wpAnyS_takeD (i := 16) 280 (.int .i64 (j : Int)) rfl rfl (by kernel_rfl) (by kernel_rfl) (by kernel_rfl) (by kernel_rfl) (fun _ _ _ h => h) (by rfl) (fun w' hw' => ?_) hS ?_
                              · (obtain ⟨s0, s1, s2, s3, s4, s5⟩ := hw'; go_simp)
                              (try simp only [Act.put, List.setIfInBounds_toArray, List.set_cons_zero, List.set_cons_succ])
                              refine wpAnyS_stepW (i := 15) (by kernel_rfl) rfl (by rfl) fun K hK => ?_
                              go_simp
                              refine (HEC.out _ (HBY.out.trans ((Below.refl _ wy).drew.mono HBY.out.size))).mono ?_
                              rintro e wE ⟨gE, cE, rfl, hcE, hyc, bE⟩
                              have hbE : Below wy.heap.size wy wE := (Below.refl _ wy).drew.trans bE
                              have HBE := Lib.hid (next HBY.out hbE)
                              have hS2 : wE.cell? ⟨w.heap.size, 0, none⟩ = some (.slice a gn gc) ∧ wE.cell? ⟨w.heap.size, 1, none⟩ = some (.int .i64 x.sc) ∧ wE.cell? ⟨gP, k * 2, none⟩ = some (.int .i64 (kN q k : Int)) ∧ wE.cell? ⟨gP, k * 2 + 1, none⟩ = some (.int .i64 (tN q k : Int)) ∧ wE.cell? ⟨gR, k, none⟩ = some (.slice (some ⟨gx, ox, none⟩) mL ck) ∧ wE.cell? ⟨gx, ox + j, none⟩ = some (.string xj) := ⟨(hbE.cell (p := ⟨w.heap.size, 0, none⟩) (World.block_lt_of_cell? wy _ g0)).trans g0, (hbE.cell (p := ⟨w.heap.size, 1, none⟩) (World.block_lt_of_cell? wy _ g1)).trans g1, (hbE.cell (p := ⟨gP, k * 2, none⟩) (World.block_lt_of_cell? wy _ e0)).trans e0, (hbE.cell (p := ⟨gP, k * 2 + 1, none⟩) (World.block_lt_of_cell? wy _ e1)).trans e1, (hbE.cell (p := ⟨gR, k, none⟩) (World.block_lt_of_cell? wy _ hvc)).trans hvc, (hbE.cell (p := ⟨gx, ox + j, none⟩) (World.block_lt_of_cell? wy _ hxy)).trans hxy⟩
                              refine hK _ _ (fun _ => hS2) ?_
                              clear hK hS bE hbE HEC g0 g1 e0 e1 hvc hxy
                              (try go_frame)
                              refine wpAnyS_stepW (i := 17) (by kernel_rfl) rfl (by rfl) fun K hK => ?_
                              go_simp
                              refine hK _ _ (fun _ => hS2) ?_
                              clear hK
                              (try go_frame)
                              refine wpAnyS_stepW (i := 18) (by kernel_rfl) rfl (by rfl) fun K hK => ?_
                              go_simp
                              refine hK _ _ (fun _ => hS2) ?_
                              clear hK
                              (try go_frame)
                              refine wpAnyS_stepW (i := 19) (by kernel_rfl) rfl (by rfl) fun K hK => ?_
                              go_simp
                              refine hK _ _ (fun _ => hS2) ?_
                              clear hK
                              (try go_frame)
                              refine wpAnyS_step (i := 20) (by kernel_rfl) rfl rfl fun K hK => ?_
                              go_simp
                              refine hK _ _ (fun _ => hS2) ?_
                              clear hK
                              (try go_frame)
                              refine wpAnyS_step (i := 21) (by kernel_rfl) rfl rfl fun K hK => ?_
                              go_simp
                              refine hK _ _ (fun h => absurd rfl h) ?_
                              clear hK hS2
                              refine wpAnyS_done (by kernel_rfl) ?_ _
                              go_wp2
                              go_roundw
                              case rel => exact ⟨j + 1, ev, by omega, rfl, by go_num, HBN, HBE.out⟩
                              case measure => simp [intOf]; omega
                          · obtain rfl : mL = j := by omega
                            have dj : decide ((mL : Int) < (mL : Int)) = false := by simp
                            have HWN : Hid (wholeTo l ds aw q z t (k + 1) = b') := Lib.hid (by
                              rw [wholeTo_succ, HWT.out, HFI.out, HML.out]
                              exact HBJ.out)
                            have HBN := Lib.hid (next HBW.out HBY.out)
                            clear e0 e1 g0 g1 hjl
                            go_wp2
                            go_roundw
                            case rel => exact ⟨k + 1, m2, b', by omega, by omega, rfl, rfl, by go_num, HSN2, HWN, HBN.out⟩
                            case measure => simp [intOf]; omega
                · obtain rfl : N = k := by omega
                  obtain rfl : m = Nf := by rw [← HSM.out, HNF.out]
                  obtain rfl : b = fa := by rw [← HWT.out, HFA.out]
                  have dd3 : decide ((N : Int) < (N : Int)) = false := by simp
                  have b0 := HF.out.b0
                  have b3 := HF.out.b3
                  have hmm : ((m : Int) == (m : Int)) = true := beq_self_eq_true _
                  have hbb2 : (b == b) = true := beq_self_eq_true _
                  have HBF := Lib.hid (next HB11.out HBW.out)
                  clear hlt
                  go_wp2
                  go_ret
                  exact ⟨rfl, HBF.out⟩
end Go.Proofs.YtiffkbmcikiioaaGreat
