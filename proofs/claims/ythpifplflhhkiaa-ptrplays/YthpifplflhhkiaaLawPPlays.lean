/-
  The walk of polderlaw09.PtrPlays: it returns true, and writes nothing that was there.
-/
import Derived.Test.YthpifplflhhkiaaQp
import Derived.Test.YthpifplflhhkiaaQi
import Derived.Test.YthpifplflhhkiaaQj
import Derived.Test.YthpifplflhhkiaaQn
namespace Go.Proofs.Ythpifplflhhkiaa
set_option maxRecDepth 100000
open Go.RowKit M

theorem wpQuiet_keep {ops : Array Oper} {C : World → Prop} {Q : Act → Prop} {l : List Oper} {a : Act} (h : ∀ K : Act → Prop, (∀ a, wpQuiet Try.prog ops C Q l a → K a) → K a) : wpQuiet Try.prog ops C Q l a := h _ (fun _ h => h)

set_option maxHeartbeats 4000000 in
theorem walk_PtrPlays (v : Value) (l : List (Int × Int)) (s : Int) (p : Ptr) (sx : ByteArray) (w : World) (hM : Meas w v l s) (hp : p.Ok) (hs : sx.size ≤ maxLen) :
    Calls Try.prog 5 #[v, p.val, .string sx] w fun e w' => e = .returned (.bool true) ∧ Below w.heap.size w w' := by
  obtain ⟨a, m, c, rfl, hg, s0, s1⟩ := id hM
  have hm := hg.1
  have HS := Lib.hid hs
  unfold maxLen at hm hs
  have K := Lib.hid (GP.start p hM)
  unfold Ptr.cells at K
  clear hM hg
  by_cases hl : 100 < m ∨ 3000 < sx.size
  · simp only [Ptr.val, Ptr.cells]
    go_enter Try.func5, Try.ntmps5
    go_wp2_with fail
    refine (awake9_any _).mono ?_
    rintro e w1 ⟨rfl, b1⟩
    have K1 := Lib.hid (K.out.next b1)
    clear b1 K
    have g0 := K1.out.h.c0
    by_cases hl1 : 100 < m
    · clear hl
      go_wp2_with fail
      refine (awake9_any _).mono ?_
      rintro e w2 ⟨rfl, b2⟩
      have K2 := Lib.hid (K1.out.next b2)
      clear b2 K1 g0
      go_wp2
      go_ret
      exact ⟨rfl, K2.out.h.below⟩
    · have hl2 : 3000 < sx.size := by omega
      clear hl
      go_wp2_with fail
      refine (awake9_any _).mono ?_
      rintro e w2 ⟨rfl, b2⟩
      have K2 := Lib.hid (K1.out.next b2)
      clear b2 K1 g0
      go_wp2
      go_ret
      exact ⟨rfl, K2.out.h.below⟩
  have hl1 : ¬ 100 < m := by omega
  have hl2 : ¬ 3000 < sx.size := by omega
  clear hl
  obtain ⟨b, hb⟩ : ∃ b, mayP p = b := ⟨_, rfl⟩
  obtain ⟨n0, hn0⟩ : ∃ n0, eqP p noP = n0 := ⟨_, rfl⟩
  obtain ⟨rr, hr⟩ : ∃ rr, rightP l s p = rr := ⟨_, rfl⟩
  obtain ⟨E, hE⟩ : ∃ E, readE sx = E := ⟨_, rfl⟩
  obtain ⟨t, ht⟩ : ∃ t, readV sx = t := ⟨_, rfl⟩
  have CB := fun w' => bytes9_any p hp w' b hb
  have CM := fun w' => refMay_any p hp w' b hb
  have CR := fun w' (h : Meas w' (.agg #[.slice a m c, .int .i64 s]) l s) => right9_any l s _ w' h p hp rr hr
  have CRR := fun w' (h : Meas w' (.agg #[.slice a m c, .int .i64 s]) l s) => refRight9_any l s _ w' h p hp rr hr
  have CP := fun w' => places_any p w'
  have CN := fun w' => none_any p w' n0 hn0
  have CD := fun w' => read9_any sx HS.out w'
  have CDD := fun w' => refRead9_any sx HS.out w'
  rw [hE, ht] at CD CDD
  have HN := Lib.hid hn0
  have HSH : Hid ((n0 = true → p = noP) ∧ (n0 = false → p ≠ noP)) := Lib.hid ⟨fun h => eqP_iff.1 (hn0.trans h), fun h => eqP_not.1 (hn0.trans h)⟩
  clear hr hE ht hn0
  simp only [Ptr.val, Ptr.cells] at CB CM CR CRR CP CN CD CDD ⊢
  replace CR := Lib.hid CR
  replace CRR := Lib.hid CRR
  replace CP := Lib.hid CP
  replace CN := Lib.hid CN
  replace CD := Lib.hid CD
  replace CDD := Lib.hid CDD
  cases b with
  | true =>
    have CF := fun w' => refBytes9_any p hp w' hb
    have hy : (bytesB true p).size = 64 := bytesP_size p
    rw [show bytesP p = bytesB true p from rfl] at CF
    rw [show erB true = 0 from rfl] at CB
    simp only [Ptr.val, Ptr.cells] at CF
    replace CF := Lib.hid CF
    generalize bytesB true p = y at CB CF hy
    replace CB := Lib.hid CB
    replace CM := Lib.hid CM
    clear hb hp
    go_enter Try.func5, Try.ntmps5
    go_wp2_with fail
    refine (awake9_any _).mono ?_
    rintro e w1 ⟨rfl, b1⟩
    have K1 := Lib.hid (K.out.next b1)
    clear b1 K
    obtain ⟨⟨g0, g1, lg, _, _⟩, ⟨c0, c1, c2, c3, c4, c5, c6, c7, c8, c9, c10, c11, lp⟩⟩ := id K1.out
    go_wp2_with fail
    refine (CB.out _).mono ?_
    rintro e w2 ⟨rfl, b2⟩
    have K2 := Lib.hid (K1.out.next b2)
    clear b2 K1 g0 g1 lg c0 c1 c2 c3 c4 c5 c6 c7 c8 c9 c10 c11 lp
    obtain ⟨⟨g0, g1, lg, _, _⟩, ⟨c0, c1, c2, c3, c4, c5, c6, c7, c8, c9, c10, c11, lp⟩⟩ := id K2.out
    go_wp2_with fail
    refine (CM.out _).mono ?_
    rintro e w3 ⟨rfl, b3⟩
    have K3 := Lib.hid (K2.out.next b3)
    clear b3 K2 g0 g1 lg c0 c1 c2 c3 c4 c5 c6 c7 c8 c9 c10 c11 lp
    obtain ⟨⟨g0, g1, lg, _, _⟩, ⟨c0, c1, c2, c3, c4, c5, c6, c7, c8, c9, c10, c11, lp⟩⟩ := id K3.out
    go_wp2_with fail
    refine (CM.out _).mono ?_
    rintro e w4 ⟨rfl, b4⟩
    have K4 := Lib.hid (K3.out.next b4)
    clear b4 K3 g0 g1 lg c0 c1 c2 c3 c4 c5 c6 c7 c8 c9 c10 c11 lp
    obtain ⟨⟨g0, g1, lg, _, _⟩, ⟨c0, c1, c2, c3, c4, c5, c6, c7, c8, c9, c10, c11, lp⟩⟩ := id K4.out
    go_wp2_with fail
    refine (CF.out _).mono ?_
    rintro e w5 ⟨rfl, b5⟩
    have K5 := Lib.hid (K4.out.next b5)
    clear b5 K4 g0 g1 lg c0 c1 c2 c3 c4 c5 c6 c7 c8 c9 c10 c11 lp
    obtain ⟨⟨g0, g1, lg, _, _⟩, ⟨c0, c1, c2, c3, c4, c5, c6, c7, c8, c9, c10, c11, lp⟩⟩ := id K5.out
    go_wp2_with fail
    refine (CM.out _).mono ?_
    rintro e w6 ⟨rfl, b6⟩
    have K6 := Lib.hid (K5.out.next b6)
    clear b6 K5 g0 g1 lg c0 c1 c2 c3 c4 c5 c6 c7 c8 c9 c10 c11 lp
    obtain ⟨⟨g0, g1, lg, _, _⟩, ⟨c0, c1, c2, c3, c4, c5, c6, c7, c8, c9, c10, c11, lp⟩⟩ := id K6.out
    go_wp2_with fail
    refine (CD.out _).mono ?_
    rintro e w7 ⟨rfl, b7⟩
    have K7 := Lib.hid ((K6.out.next b7).next (boxed w7 (.cells #[.int .i64 t.ag, .int .i64 t.aa, .int .i64 t.bg, .int .i64 t.ba, .bool t.two, .int .i64 t.sz, .int .i64 t.lv, .int .i64 t.bi, .int .u64 t.q.a, .int .u64 t.q.b, .int .u64 t.q.c, .int .u64 t.q.d] 28)))
    have X7 := Lib.hid (Box.new w7 t)
    unfold Ptr.cells at X7
    clear b7 K6 g0 g1 lg c0 c1 c2 c3 c4 c5 c6 c7 c8 c9 c10 c11 lp
    go_wp2_with fail
    refine (CDD.out _).mono ?_
    rintro e w8 ⟨rfl, b8⟩
    have K8 := Lib.hid ((K7.out.next b8).next (boxed w8 (.cells #[.int .i64 t.ag, .int .i64 t.aa, .int .i64 t.bg, .int .i64 t.ba, .bool t.two, .int .i64 t.sz, .int .i64 t.lv, .int .i64 t.bi, .int .u64 t.q.a, .int .u64 t.q.b, .int .u64 t.q.c, .int .u64 t.q.d] 28)))
    have X8 := Lib.hid ((X7.out.next b8).next (boxed w8 (.cells #[.int .i64 t.ag, .int .i64 t.aa, .int .i64 t.bg, .int .i64 t.ba, .bool t.two, .int .i64 t.sz, .int .i64 t.lv, .int .i64 t.bi, .int .u64 t.q.a, .int .u64 t.q.b, .int .u64 t.q.c, .int .u64 t.q.d] 28)))
    have Y8 := Lib.hid (Box.new w8 t)
    unfold Ptr.cells at Y8
    clear b8 K7 X7
    go_wp2_with fail
    generalize w8.alloc _ = W at K8 X8 Y8 ⊢
    generalize w7.heap.size = bq at X8 ⊢
    generalize w8.heap.size = bx at Y8 ⊢
    have CRX : Hid (∀ y : Ext W, Calls Try.prog 15 #[.agg #[.slice a m c, .int .i64 s], .agg #[.int .i64 p.ag, .int .i64 p.aa, .int .i64 p.bg, .int .i64 p.ba, .bool p.two, .int .i64 p.sz, .int .i64 p.lv, .int .i64 p.bi, .int .u64 p.q.a, .int .u64 p.q.b, .int .u64 p.q.c, .int .u64 p.q.d]] y.v fun e w' => e = .returned (.bool rr) ∧ ∃ y' : Ext W, w' = y'.v) := Lib.hid (Ext.calls fun w' hb => CR.out w' (K8.out.h.m.below hb))
    have CRY : Hid (∀ y : Ext W, Calls Try.prog 16 #[.agg #[.slice a m c, .int .i64 s], .agg #[.int .i64 p.ag, .int .i64 p.aa, .int .i64 p.bg, .int .i64 p.ba, .bool p.two, .int .i64 p.sz, .int .i64 p.lv, .int .i64 p.bi, .int .u64 p.q.a, .int .u64 p.q.b, .int .u64 p.q.c, .int .u64 p.q.d]] y.v fun e w' => e = .returned (.bool rr) ∧ ∃ y' : Ext W, w' = y'.v) := Lib.hid (Ext.calls fun w' hb => CRR.out w' (K8.out.h.m.below hb))
    obtain ⟨⟨g0, g1, lg, _, _⟩, ⟨c0, c1, c2, c3, c4, c5, c6, c7, c8, c9, c10, c11, lp⟩⟩ := id K8.out
    obtain ⟨x0, x1, x2, x3, x4, x5, x6, x7, x8, x9, x10, x11, lx⟩ := id X8.out
    obtain ⟨y0, y1, y2, y3, y4, y5, y6, y7, y8, y9, y10, y11, ly⟩ := id Y8.out
    have f0 := fun y : Ext W => y.cell g0 lg
    have f1 := fun y : Ext W => y.cell g1 lg
    have k0 := fun y : Ext W => y.cell c0 lp
    have k1 := fun y : Ext W => y.cell c1 lp
    have k2 := fun y : Ext W => y.cell c2 lp
    have k3 := fun y : Ext W => y.cell c3 lp
    have k4 := fun y : Ext W => y.cell c4 lp
    have k5 := fun y : Ext W => y.cell c5 lp
    have k6 := fun y : Ext W => y.cell c6 lp
    have k7 := fun y : Ext W => y.cell c7 lp
    have k8 := fun y : Ext W => y.cell c8 lp
    have k9 := fun y : Ext W => y.cell c9 lp
    have k10 := fun y : Ext W => y.cell c10 lp
    have k11 := fun y : Ext W => y.cell c11 lp
    have q0 := fun y : Ext W => y.cell x0 lx
    have q1 := fun y : Ext W => y.cell x1 lx
    have q2 := fun y : Ext W => y.cell x2 lx
    have q3 := fun y : Ext W => y.cell x3 lx
    have q4 := fun y : Ext W => y.cell x4 lx
    have q5 := fun y : Ext W => y.cell x5 lx
    have q6 := fun y : Ext W => y.cell x6 lx
    have q7 := fun y : Ext W => y.cell x7 lx
    have q8 := fun y : Ext W => y.cell x8 lx
    have q9 := fun y : Ext W => y.cell x9 lx
    have q10 := fun y : Ext W => y.cell x10 lx
    have q11 := fun y : Ext W => y.cell x11 lx
    have z0 := fun y : Ext W => y.cell y0 ly
    have z1 := fun y : Ext W => y.cell y1 ly
    have z2 := fun y : Ext W => y.cell y2 ly
    have z3 := fun y : Ext W => y.cell y3 ly
    have z4 := fun y : Ext W => y.cell y4 ly
    have z5 := fun y : Ext W => y.cell y5 ly
    have z6 := fun y : Ext W => y.cell y6 ly
    have z7 := fun y : Ext W => y.cell y7 ly
    have z8 := fun y : Ext W => y.cell y8 ly
    have z9 := fun y : Ext W => y.cell y9 ly
    have z10 := fun y : Ext W => y.cell y10 ly
    have z11 := fun y : Ext W => y.cell y11 ly
    clear g0 g1 lg c0 c1 c2 c3 c4 c5 c6 c7 c8 c9 c10 c11 lp x0 x1 x2 x3 x4 x5 x6 x7 x8 x9 x10 x11 lx y0 y1 y2 y3 y4 y5 y6 y7 y8 y9 y10 y11 ly
    haveI hne : Nonempty (Ext W) := Ext.some W
    refine wp_region_family (Ext.v (W := W)) (by kernel_rfl) (by kernel_rfl) ⟨⟨_, (Below.refl _ W).drew⟩, rfl⟩ ?_
    repeat (first | (refine wpQuiet_neq (by kernel_rfl) rfl t t rfl rfl true (eqP_self t) ?_; refine wpQuiet_keep (fun K hK => ?_); go_simp; refine hK _ ?_; clear hK K) | (go_big_quiet_step (first | (go_at_call 15; exact CRX.out _) | (go_at_call 16; exact CRY.out _))))
    refine wpQuiet_nil ?_
    rintro w9 ⟨⟨w9', h9⟩, rfl⟩
    have K9 := Lib.hid (K8.out.next h9)
    clear hne f0 f1 k0 k1 k2 k3 k4 k5 k6 k7 k8 k9 k10 k11 q0 q1 q2 q3 q4 q5 q6 q7 q8 q9 q10 q11 z0 z1 z2 z3 z4 z5 z6 z7 z8 z9 z10 z11 K8 X8 Y8 CRX CRY h9
    obtain ⟨⟨g0, g1, lg, _, _⟩, ⟨c0, c1, c2, c3, c4, c5, c6, c7, c8, c9, c10, c11, lp⟩⟩ := id K9.out
    go_wp2_with fail
    refine (CP.out _).mono ?_
    rintro e w10 ⟨v, rfl, hv, b10⟩
    have K10 := Lib.hid (K9.out.next b10)
    clear b10 K9 g0 g1 lg c0 c1 c2 c3 c4 c5 c6 c7 c8 c9 c10 c11 lp
    have CNX : Hid (∀ y : Ext w10, Calls Try.prog 10 #[.agg #[.int .i64 p.ag, .int .i64 p.aa, .int .i64 p.bg, .int .i64 p.ba, .bool p.two, .int .i64 p.sz, .int .i64 p.lv, .int .i64 p.bi, .int .u64 p.q.a, .int .u64 p.q.b, .int .u64 p.q.c, .int .u64 p.q.d]] y.v fun e w' => e = .returned (.bool n0) ∧ ∃ y' : Ext w10, w' = y'.v) := Lib.hid (Ext.calls fun w' _ => CN.out w')
    obtain ⟨⟨g0, g1, lg, _, _⟩, ⟨c0, c1, c2, c3, c4, c5, c6, c7, c8, c9, c10, c11, lp⟩⟩ := id K10.out
    rcases hv with ⟨hno, rfl⟩ | ⟨hno, htw, g, rfl, hgl, e0, e1, e2, e3⟩ | ⟨hno, htw, g, rfl, hgl, e0, e1⟩
    · have hnt : n0 = true := HN.out.symm.trans (eqP_iff.2 hno)
      subst hnt
      clear hno
      go_wp2_with fail
      have k0 := fun y : Ext w10 => y.cell c0 lp
      have k1 := fun y : Ext w10 => y.cell c1 lp
      have k2 := fun y : Ext w10 => y.cell c2 lp
      have k3 := fun y : Ext w10 => y.cell c3 lp
      have k4 := fun y : Ext w10 => y.cell c4 lp
      have k5 := fun y : Ext w10 => y.cell c5 lp
      have k6 := fun y : Ext w10 => y.cell c6 lp
      have k7 := fun y : Ext w10 => y.cell c7 lp
      have k8 := fun y : Ext w10 => y.cell c8 lp
      have k9 := fun y : Ext w10 => y.cell c9 lp
      have k10 := fun y : Ext w10 => y.cell c10 lp
      have k11 := fun y : Ext w10 => y.cell c11 lp
      clear g0 g1 lg c0 c1 c2 c3 c4 c5 c6 c7 c8 c9 c10 c11 lp
      haveI hne : Nonempty (Ext w10) := Ext.some w10
      refine wp_region_family (Ext.v (W := w10)) (by kernel_rfl) (by kernel_rfl) ⟨⟨_, (Below.refl _ w10).drew⟩, rfl⟩ ?_
      repeat (first | (refine wpQuiet_eql (by kernel_rfl) rfl p noP rfl rfl true HN.out ?_; refine wpQuiet_keep (fun K hK => ?_); go_simp; refine hK _ ?_; clear hK K) | (go_big_quiet_step (first | (go_at_call 10; exact CNX.out _))))
      refine wpQuiet_nil ?_
      rintro w11 ⟨⟨w11', h11⟩, rfl⟩
      have K11 := Lib.hid (K10.out.next h11)
      clear hne k0 k1 k2 k3 k4 k5 k6 k7 k8 k9 k10 k11 K10 CNX
      obtain ⟨⟨g0, g1, lg, _, _⟩, ⟨c0, c1, c2, c3, c4, c5, c6, c7, c8, c9, c10, c11, lp⟩⟩ := id K11.out
      clear h11
      go_wp2_with (first | (refine wpList_eql rfl rfl p noP rfl rfl true HN.out ?_) | fail)
      go_ret
      exact ⟨rfl, K11.out.h.below⟩
    · have hnt : n0 = false := HN.out.symm.trans (eqP_not.2 hno)
      subst hnt
      have HTW := Lib.hid htw
      clear hno htw
      go_wp2_with fail
      have k0 := fun y : Ext w10 => y.cell c0 lp
      have k1 := fun y : Ext w10 => y.cell c1 lp
      have k2 := fun y : Ext w10 => y.cell c2 lp
      have k3 := fun y : Ext w10 => y.cell c3 lp
      have k4 := fun y : Ext w10 => y.cell c4 lp
      have k5 := fun y : Ext w10 => y.cell c5 lp
      have k6 := fun y : Ext w10 => y.cell c6 lp
      have k7 := fun y : Ext w10 => y.cell c7 lp
      have k8 := fun y : Ext w10 => y.cell c8 lp
      have k9 := fun y : Ext w10 => y.cell c9 lp
      have k10 := fun y : Ext w10 => y.cell c10 lp
      have k11 := fun y : Ext w10 => y.cell c11 lp
      clear g0 g1 lg c0 c1 c2 c3 c4 c5 c6 c7 c8 c9 c10 c11 lp
      haveI hne : Nonempty (Ext w10) := Ext.some w10
      refine wp_region_family (Ext.v (W := w10)) (by kernel_rfl) (by kernel_rfl) ⟨⟨_, (Below.refl _ w10).drew⟩, rfl⟩ ?_
      repeat (first | (refine wpQuiet_eql (by kernel_rfl) rfl p noP rfl rfl false HN.out ?_; refine wpQuiet_keep (fun K hK => ?_); go_simp; refine hK _ ?_; clear hK K) | (go_big_quiet_step (first | (go_at_call 10; exact CNX.out _))))
      refine wpQuiet_nil ?_
      rintro w11 ⟨⟨w11', h11⟩, rfl⟩
      have K11 := Lib.hid (K10.out.next h11)
      clear hne k0 k1 k2 k3 k4 k5 k6 k7 k8 k9 k10 k11 K10 CNX
      have v0 := (h11.cell (p := ⟨g, 0, none⟩) hgl).trans e0
      have v1 := (h11.cell (p := ⟨g, 1, none⟩) hgl).trans e1
      have v2 := (h11.cell (p := ⟨g, 2, none⟩) hgl).trans e2
      have v3 := (h11.cell (p := ⟨g, 3, none⟩) hgl).trans e3
      have hg2 := Nat.lt_of_lt_of_le hgl h11.size
      clear h11 e0 e1 e2 e3 hgl
      obtain ⟨⟨g0, g1, lg, _, _⟩, ⟨c0, c1, c2, c3, c4, c5, c6, c7, c8, c9, c10, c11, lp⟩⟩ := id K11.out
      have HN2 : Hid (eqP ⟨p.ag, p.aa, p.bg, p.ba, true, p.sz, p.lv, p.bi, p.q⟩ noP = false) := Lib.hid ((congrArg (fun z => eqP ⟨p.ag, p.aa, p.bg, p.ba, z, p.sz, p.lv, p.bi, p.q⟩ noP) HTW.out).symm.trans HN.out)
      rw [HTW.out] at c4
      go_wp2_with (first | (refine wpList_eql rfl rfl ⟨p.ag, p.aa, p.bg, p.ba, true, p.sz, p.lv, p.bi, p.q⟩ noP rfl rfl false HN2.out ?_) | fail)
      have k0 := fun y : Ext w11 => y.cell c0 lp
      have k1 := fun y : Ext w11 => y.cell c1 lp
      have k2 := fun y : Ext w11 => y.cell c2 lp
      have k3 := fun y : Ext w11 => y.cell c3 lp
      have u0 := fun y : Ext w11 => y.cell v0 hg2
      have u1 := fun y : Ext w11 => y.cell v1 hg2
      have u2 := fun y : Ext w11 => y.cell v2 hg2
      have u3 := fun y : Ext w11 => y.cell v3 hg2
      clear g0 g1 lg c0 c1 c2 c3 c4 c5 c6 c7 c8 c9 c10 c11 lp v0 v1 v2 v3 hg2
      haveI hne : Nonempty (Ext w11) := Ext.some w11
      refine wp_region_family (Ext.v (W := w11)) (by kernel_rfl) (by kernel_rfl) ⟨⟨_, (Below.refl _ w11).drew⟩, rfl⟩ ?_
      repeat (first | (go_big_quiet_step (fail)))
      refine wpQuiet_nil ?_
      rintro w12 ⟨⟨w12', h12⟩, rfl⟩
      have K12 := Lib.hid (K11.out.next h12)
      clear hne k0 k1 k2 k3 u0 u1 u2 u3 K11 h12
      go_wp2
      go_ret
      exact ⟨rfl, K12.out.h.below⟩
    · have hnt : n0 = false := HN.out.symm.trans (eqP_not.2 hno)
      subst hnt
      have HTW := Lib.hid htw
      clear hno htw
      go_wp2_with fail
      have k0 := fun y : Ext w10 => y.cell c0 lp
      have k1 := fun y : Ext w10 => y.cell c1 lp
      have k2 := fun y : Ext w10 => y.cell c2 lp
      have k3 := fun y : Ext w10 => y.cell c3 lp
      have k4 := fun y : Ext w10 => y.cell c4 lp
      have k5 := fun y : Ext w10 => y.cell c5 lp
      have k6 := fun y : Ext w10 => y.cell c6 lp
      have k7 := fun y : Ext w10 => y.cell c7 lp
      have k8 := fun y : Ext w10 => y.cell c8 lp
      have k9 := fun y : Ext w10 => y.cell c9 lp
      have k10 := fun y : Ext w10 => y.cell c10 lp
      have k11 := fun y : Ext w10 => y.cell c11 lp
      clear g0 g1 lg c0 c1 c2 c3 c4 c5 c6 c7 c8 c9 c10 c11 lp
      haveI hne : Nonempty (Ext w10) := Ext.some w10
      refine wp_region_family (Ext.v (W := w10)) (by kernel_rfl) (by kernel_rfl) ⟨⟨_, (Below.refl _ w10).drew⟩, rfl⟩ ?_
      repeat (first | (refine wpQuiet_eql (by kernel_rfl) rfl p noP rfl rfl false HN.out ?_; refine wpQuiet_keep (fun K hK => ?_); go_simp; refine hK _ ?_; clear hK K) | (go_big_quiet_step (first | (go_at_call 10; exact CNX.out _))))
      refine wpQuiet_nil ?_
      rintro w11 ⟨⟨w11', h11⟩, rfl⟩
      have K11 := Lib.hid (K10.out.next h11)
      clear hne k0 k1 k2 k3 k4 k5 k6 k7 k8 k9 k10 k11 K10 CNX
      have v0 := (h11.cell (p := ⟨g, 0, none⟩) hgl).trans e0
      have v1 := (h11.cell (p := ⟨g, 1, none⟩) hgl).trans e1
      have hg2 := Nat.lt_of_lt_of_le hgl h11.size
      clear h11 e0 e1 hgl
      obtain ⟨⟨g0, g1, lg, _, _⟩, ⟨c0, c1, c2, c3, c4, c5, c6, c7, c8, c9, c10, c11, lp⟩⟩ := id K11.out
      have HN2 : Hid (eqP ⟨p.ag, p.aa, p.bg, p.ba, false, p.sz, p.lv, p.bi, p.q⟩ noP = false) := Lib.hid ((congrArg (fun z => eqP ⟨p.ag, p.aa, p.bg, p.ba, z, p.sz, p.lv, p.bi, p.q⟩ noP) HTW.out).symm.trans HN.out)
      rw [HTW.out] at c4
      go_wp2_with (first | (refine wpList_eql rfl rfl ⟨p.ag, p.aa, p.bg, p.ba, false, p.sz, p.lv, p.bi, p.q⟩ noP rfl rfl false HN2.out ?_) | fail)
      have k0 := fun y : Ext w11 => y.cell c0 lp
      have k1 := fun y : Ext w11 => y.cell c1 lp
      have k2 := fun y : Ext w11 => y.cell c2 lp
      have k3 := fun y : Ext w11 => y.cell c3 lp
      have u0 := fun y : Ext w11 => y.cell v0 hg2
      have u1 := fun y : Ext w11 => y.cell v1 hg2
      clear g0 g1 lg c0 c1 c2 c3 c4 c5 c6 c7 c8 c9 c10 c11 lp v0 v1 hg2
      haveI hne : Nonempty (Ext w11) := Ext.some w11
      refine wp_region_family (Ext.v (W := w11)) (by kernel_rfl) (by kernel_rfl) ⟨⟨_, (Below.refl _ w11).drew⟩, rfl⟩ ?_
      repeat (first | (go_big_quiet_step (fail)))
      refine wpQuiet_nil ?_
      rintro w12 ⟨⟨w12', h12⟩, rfl⟩
      have K12 := Lib.hid (K11.out.next h12)
      clear hne k0 k1 k2 k3 u0 u1 K11 h12
      go_wp2
      go_ret
      exact ⟨rfl, K12.out.h.below⟩
  | false =>
    rw [show erB false = 1 from rfl, show bytesB false p = ⟨#[]⟩ from rfl] at CB
    replace CB := Lib.hid CB
    replace CM := Lib.hid CM
    clear hb hp
    go_enter Try.func5, Try.ntmps5
    go_wp2_with fail
    refine (awake9_any _).mono ?_
    rintro e w1 ⟨rfl, b1⟩
    have K1 := Lib.hid (K.out.next b1)
    clear b1 K
    obtain ⟨⟨g0, g1, lg, _, _⟩, ⟨c0, c1, c2, c3, c4, c5, c6, c7, c8, c9, c10, c11, lp⟩⟩ := id K1.out
    go_wp2_with fail
    refine (CB.out _).mono ?_
    rintro e w2 ⟨rfl, b2⟩
    have K2 := Lib.hid (K1.out.next b2)
    clear b2 K1 g0 g1 lg c0 c1 c2 c3 c4 c5 c6 c7 c8 c9 c10 c11 lp
    obtain ⟨⟨g0, g1, lg, _, _⟩, ⟨c0, c1, c2, c3, c4, c5, c6, c7, c8, c9, c10, c11, lp⟩⟩ := id K2.out
    go_wp2_with fail
    refine (CM.out _).mono ?_
    rintro e w3 ⟨rfl, b3⟩
    have K3 := Lib.hid (K2.out.next b3)
    clear b3 K2 g0 g1 lg c0 c1 c2 c3 c4 c5 c6 c7 c8 c9 c10 c11 lp
    obtain ⟨⟨g0, g1, lg, _, _⟩, ⟨c0, c1, c2, c3, c4, c5, c6, c7, c8, c9, c10, c11, lp⟩⟩ := id K3.out
    go_wp2_with fail
    refine (CM.out _).mono ?_
    rintro e w4 ⟨rfl, b4⟩
    have K4 := Lib.hid (K3.out.next b4)
    clear b4 K3 g0 g1 lg c0 c1 c2 c3 c4 c5 c6 c7 c8 c9 c10 c11 lp
    obtain ⟨⟨g0, g1, lg, _, _⟩, ⟨c0, c1, c2, c3, c4, c5, c6, c7, c8, c9, c10, c11, lp⟩⟩ := id K4.out
    go_wp2_with fail
    refine (CM.out _).mono ?_
    rintro e w6 ⟨rfl, b6⟩
    have K6 := Lib.hid (K4.out.next b6)
    clear b6 K4 g0 g1 lg c0 c1 c2 c3 c4 c5 c6 c7 c8 c9 c10 c11 lp
    obtain ⟨⟨g0, g1, lg, _, _⟩, ⟨c0, c1, c2, c3, c4, c5, c6, c7, c8, c9, c10, c11, lp⟩⟩ := id K6.out
    go_wp2_with fail
    refine (CD.out _).mono ?_
    rintro e w7 ⟨rfl, b7⟩
    have K7 := Lib.hid ((K6.out.next b7).next (boxed w7 (.cells #[.int .i64 t.ag, .int .i64 t.aa, .int .i64 t.bg, .int .i64 t.ba, .bool t.two, .int .i64 t.sz, .int .i64 t.lv, .int .i64 t.bi, .int .u64 t.q.a, .int .u64 t.q.b, .int .u64 t.q.c, .int .u64 t.q.d] 28)))
    have X7 := Lib.hid (Box.new w7 t)
    unfold Ptr.cells at X7
    clear b7 K6 g0 g1 lg c0 c1 c2 c3 c4 c5 c6 c7 c8 c9 c10 c11 lp
    go_wp2_with fail
    refine (CDD.out _).mono ?_
    rintro e w8 ⟨rfl, b8⟩
    have K8 := Lib.hid ((K7.out.next b8).next (boxed w8 (.cells #[.int .i64 t.ag, .int .i64 t.aa, .int .i64 t.bg, .int .i64 t.ba, .bool t.two, .int .i64 t.sz, .int .i64 t.lv, .int .i64 t.bi, .int .u64 t.q.a, .int .u64 t.q.b, .int .u64 t.q.c, .int .u64 t.q.d] 28)))
    have X8 := Lib.hid ((X7.out.next b8).next (boxed w8 (.cells #[.int .i64 t.ag, .int .i64 t.aa, .int .i64 t.bg, .int .i64 t.ba, .bool t.two, .int .i64 t.sz, .int .i64 t.lv, .int .i64 t.bi, .int .u64 t.q.a, .int .u64 t.q.b, .int .u64 t.q.c, .int .u64 t.q.d] 28)))
    have Y8 := Lib.hid (Box.new w8 t)
    unfold Ptr.cells at Y8
    clear b8 K7 X7
    go_wp2_with fail
    generalize w8.alloc _ = W at K8 X8 Y8 ⊢
    generalize w7.heap.size = bq at X8 ⊢
    generalize w8.heap.size = bx at Y8 ⊢
    have CRX : Hid (∀ y : Ext W, Calls Try.prog 15 #[.agg #[.slice a m c, .int .i64 s], .agg #[.int .i64 p.ag, .int .i64 p.aa, .int .i64 p.bg, .int .i64 p.ba, .bool p.two, .int .i64 p.sz, .int .i64 p.lv, .int .i64 p.bi, .int .u64 p.q.a, .int .u64 p.q.b, .int .u64 p.q.c, .int .u64 p.q.d]] y.v fun e w' => e = .returned (.bool rr) ∧ ∃ y' : Ext W, w' = y'.v) := Lib.hid (Ext.calls fun w' hb => CR.out w' (K8.out.h.m.below hb))
    have CRY : Hid (∀ y : Ext W, Calls Try.prog 16 #[.agg #[.slice a m c, .int .i64 s], .agg #[.int .i64 p.ag, .int .i64 p.aa, .int .i64 p.bg, .int .i64 p.ba, .bool p.two, .int .i64 p.sz, .int .i64 p.lv, .int .i64 p.bi, .int .u64 p.q.a, .int .u64 p.q.b, .int .u64 p.q.c, .int .u64 p.q.d]] y.v fun e w' => e = .returned (.bool rr) ∧ ∃ y' : Ext W, w' = y'.v) := Lib.hid (Ext.calls fun w' hb => CRR.out w' (K8.out.h.m.below hb))
    obtain ⟨⟨g0, g1, lg, _, _⟩, ⟨c0, c1, c2, c3, c4, c5, c6, c7, c8, c9, c10, c11, lp⟩⟩ := id K8.out
    obtain ⟨x0, x1, x2, x3, x4, x5, x6, x7, x8, x9, x10, x11, lx⟩ := id X8.out
    obtain ⟨y0, y1, y2, y3, y4, y5, y6, y7, y8, y9, y10, y11, ly⟩ := id Y8.out
    have f0 := fun y : Ext W => y.cell g0 lg
    have f1 := fun y : Ext W => y.cell g1 lg
    have k0 := fun y : Ext W => y.cell c0 lp
    have k1 := fun y : Ext W => y.cell c1 lp
    have k2 := fun y : Ext W => y.cell c2 lp
    have k3 := fun y : Ext W => y.cell c3 lp
    have k4 := fun y : Ext W => y.cell c4 lp
    have k5 := fun y : Ext W => y.cell c5 lp
    have k6 := fun y : Ext W => y.cell c6 lp
    have k7 := fun y : Ext W => y.cell c7 lp
    have k8 := fun y : Ext W => y.cell c8 lp
    have k9 := fun y : Ext W => y.cell c9 lp
    have k10 := fun y : Ext W => y.cell c10 lp
    have k11 := fun y : Ext W => y.cell c11 lp
    have q0 := fun y : Ext W => y.cell x0 lx
    have q1 := fun y : Ext W => y.cell x1 lx
    have q2 := fun y : Ext W => y.cell x2 lx
    have q3 := fun y : Ext W => y.cell x3 lx
    have q4 := fun y : Ext W => y.cell x4 lx
    have q5 := fun y : Ext W => y.cell x5 lx
    have q6 := fun y : Ext W => y.cell x6 lx
    have q7 := fun y : Ext W => y.cell x7 lx
    have q8 := fun y : Ext W => y.cell x8 lx
    have q9 := fun y : Ext W => y.cell x9 lx
    have q10 := fun y : Ext W => y.cell x10 lx
    have q11 := fun y : Ext W => y.cell x11 lx
    have z0 := fun y : Ext W => y.cell y0 ly
    have z1 := fun y : Ext W => y.cell y1 ly
    have z2 := fun y : Ext W => y.cell y2 ly
    have z3 := fun y : Ext W => y.cell y3 ly
    have z4 := fun y : Ext W => y.cell y4 ly
    have z5 := fun y : Ext W => y.cell y5 ly
    have z6 := fun y : Ext W => y.cell y6 ly
    have z7 := fun y : Ext W => y.cell y7 ly
    have z8 := fun y : Ext W => y.cell y8 ly
    have z9 := fun y : Ext W => y.cell y9 ly
    have z10 := fun y : Ext W => y.cell y10 ly
    have z11 := fun y : Ext W => y.cell y11 ly
    clear g0 g1 lg c0 c1 c2 c3 c4 c5 c6 c7 c8 c9 c10 c11 lp x0 x1 x2 x3 x4 x5 x6 x7 x8 x9 x10 x11 lx y0 y1 y2 y3 y4 y5 y6 y7 y8 y9 y10 y11 ly
    haveI hne : Nonempty (Ext W) := Ext.some W
    refine wp_region_family (Ext.v (W := W)) (by kernel_rfl) (by kernel_rfl) ⟨⟨_, (Below.refl _ W).drew⟩, rfl⟩ ?_
    repeat (first | (refine wpQuiet_neq (by kernel_rfl) rfl t t rfl rfl true (eqP_self t) ?_; refine wpQuiet_keep (fun K hK => ?_); go_simp; refine hK _ ?_; clear hK K) | (go_big_quiet_step (first | (go_at_call 15; exact CRX.out _) | (go_at_call 16; exact CRY.out _))))
    refine wpQuiet_nil ?_
    rintro w9 ⟨⟨w9', h9⟩, rfl⟩
    have K9 := Lib.hid (K8.out.next h9)
    clear hne f0 f1 k0 k1 k2 k3 k4 k5 k6 k7 k8 k9 k10 k11 q0 q1 q2 q3 q4 q5 q6 q7 q8 q9 q10 q11 z0 z1 z2 z3 z4 z5 z6 z7 z8 z9 z10 z11 K8 X8 Y8 CRX CRY h9
    obtain ⟨⟨g0, g1, lg, _, _⟩, ⟨c0, c1, c2, c3, c4, c5, c6, c7, c8, c9, c10, c11, lp⟩⟩ := id K9.out
    go_wp2_with fail
    refine (CP.out _).mono ?_
    rintro e w10 ⟨v, rfl, hv, b10⟩
    have K10 := Lib.hid (K9.out.next b10)
    clear b10 K9 g0 g1 lg c0 c1 c2 c3 c4 c5 c6 c7 c8 c9 c10 c11 lp
    have CNX : Hid (∀ y : Ext w10, Calls Try.prog 10 #[.agg #[.int .i64 p.ag, .int .i64 p.aa, .int .i64 p.bg, .int .i64 p.ba, .bool p.two, .int .i64 p.sz, .int .i64 p.lv, .int .i64 p.bi, .int .u64 p.q.a, .int .u64 p.q.b, .int .u64 p.q.c, .int .u64 p.q.d]] y.v fun e w' => e = .returned (.bool n0) ∧ ∃ y' : Ext w10, w' = y'.v) := Lib.hid (Ext.calls fun w' _ => CN.out w')
    obtain ⟨⟨g0, g1, lg, _, _⟩, ⟨c0, c1, c2, c3, c4, c5, c6, c7, c8, c9, c10, c11, lp⟩⟩ := id K10.out
    rcases hv with ⟨hno, rfl⟩ | ⟨hno, htw, g, rfl, hgl, e0, e1, e2, e3⟩ | ⟨hno, htw, g, rfl, hgl, e0, e1⟩
    · have hnt : n0 = true := HN.out.symm.trans (eqP_iff.2 hno)
      subst hnt
      clear hno
      go_wp2_with fail
      have k0 := fun y : Ext w10 => y.cell c0 lp
      have k1 := fun y : Ext w10 => y.cell c1 lp
      have k2 := fun y : Ext w10 => y.cell c2 lp
      have k3 := fun y : Ext w10 => y.cell c3 lp
      have k4 := fun y : Ext w10 => y.cell c4 lp
      have k5 := fun y : Ext w10 => y.cell c5 lp
      have k6 := fun y : Ext w10 => y.cell c6 lp
      have k7 := fun y : Ext w10 => y.cell c7 lp
      have k8 := fun y : Ext w10 => y.cell c8 lp
      have k9 := fun y : Ext w10 => y.cell c9 lp
      have k10 := fun y : Ext w10 => y.cell c10 lp
      have k11 := fun y : Ext w10 => y.cell c11 lp
      clear g0 g1 lg c0 c1 c2 c3 c4 c5 c6 c7 c8 c9 c10 c11 lp
      haveI hne : Nonempty (Ext w10) := Ext.some w10
      refine wp_region_family (Ext.v (W := w10)) (by kernel_rfl) (by kernel_rfl) ⟨⟨_, (Below.refl _ w10).drew⟩, rfl⟩ ?_
      repeat (first | (refine wpQuiet_eql (by kernel_rfl) rfl p noP rfl rfl true HN.out ?_; refine wpQuiet_keep (fun K hK => ?_); go_simp; refine hK _ ?_; clear hK K) | (go_big_quiet_step (first | (go_at_call 10; exact CNX.out _))))
      refine wpQuiet_nil ?_
      rintro w11 ⟨⟨w11', h11⟩, rfl⟩
      have K11 := Lib.hid (K10.out.next h11)
      clear hne k0 k1 k2 k3 k4 k5 k6 k7 k8 k9 k10 k11 K10 CNX
      obtain ⟨⟨g0, g1, lg, _, _⟩, ⟨c0, c1, c2, c3, c4, c5, c6, c7, c8, c9, c10, c11, lp⟩⟩ := id K11.out
      clear h11
      go_wp2_with (first | (refine wpList_eql rfl rfl p noP rfl rfl true HN.out ?_) | fail)
      go_ret
      exact ⟨rfl, K11.out.h.below⟩
    · have hnt : n0 = false := HN.out.symm.trans (eqP_not.2 hno)
      subst hnt
      have HTW := Lib.hid htw
      clear hno htw
      go_wp2_with fail
      have k0 := fun y : Ext w10 => y.cell c0 lp
      have k1 := fun y : Ext w10 => y.cell c1 lp
      have k2 := fun y : Ext w10 => y.cell c2 lp
      have k3 := fun y : Ext w10 => y.cell c3 lp
      have k4 := fun y : Ext w10 => y.cell c4 lp
      have k5 := fun y : Ext w10 => y.cell c5 lp
      have k6 := fun y : Ext w10 => y.cell c6 lp
      have k7 := fun y : Ext w10 => y.cell c7 lp
      have k8 := fun y : Ext w10 => y.cell c8 lp
      have k9 := fun y : Ext w10 => y.cell c9 lp
      have k10 := fun y : Ext w10 => y.cell c10 lp
      have k11 := fun y : Ext w10 => y.cell c11 lp
      clear g0 g1 lg c0 c1 c2 c3 c4 c5 c6 c7 c8 c9 c10 c11 lp
      haveI hne : Nonempty (Ext w10) := Ext.some w10
      refine wp_region_family (Ext.v (W := w10)) (by kernel_rfl) (by kernel_rfl) ⟨⟨_, (Below.refl _ w10).drew⟩, rfl⟩ ?_
      repeat (first | (refine wpQuiet_eql (by kernel_rfl) rfl p noP rfl rfl false HN.out ?_; refine wpQuiet_keep (fun K hK => ?_); go_simp; refine hK _ ?_; clear hK K) | (go_big_quiet_step (first | (go_at_call 10; exact CNX.out _))))
      refine wpQuiet_nil ?_
      rintro w11 ⟨⟨w11', h11⟩, rfl⟩
      have K11 := Lib.hid (K10.out.next h11)
      clear hne k0 k1 k2 k3 k4 k5 k6 k7 k8 k9 k10 k11 K10 CNX
      have v0 := (h11.cell (p := ⟨g, 0, none⟩) hgl).trans e0
      have v1 := (h11.cell (p := ⟨g, 1, none⟩) hgl).trans e1
      have v2 := (h11.cell (p := ⟨g, 2, none⟩) hgl).trans e2
      have v3 := (h11.cell (p := ⟨g, 3, none⟩) hgl).trans e3
      have hg2 := Nat.lt_of_lt_of_le hgl h11.size
      clear h11 e0 e1 e2 e3 hgl
      obtain ⟨⟨g0, g1, lg, _, _⟩, ⟨c0, c1, c2, c3, c4, c5, c6, c7, c8, c9, c10, c11, lp⟩⟩ := id K11.out
      have HN2 : Hid (eqP ⟨p.ag, p.aa, p.bg, p.ba, true, p.sz, p.lv, p.bi, p.q⟩ noP = false) := Lib.hid ((congrArg (fun z => eqP ⟨p.ag, p.aa, p.bg, p.ba, z, p.sz, p.lv, p.bi, p.q⟩ noP) HTW.out).symm.trans HN.out)
      rw [HTW.out] at c4
      go_wp2_with (first | (refine wpList_eql rfl rfl ⟨p.ag, p.aa, p.bg, p.ba, true, p.sz, p.lv, p.bi, p.q⟩ noP rfl rfl false HN2.out ?_) | fail)
      have k0 := fun y : Ext w11 => y.cell c0 lp
      have k1 := fun y : Ext w11 => y.cell c1 lp
      have k2 := fun y : Ext w11 => y.cell c2 lp
      have k3 := fun y : Ext w11 => y.cell c3 lp
      have u0 := fun y : Ext w11 => y.cell v0 hg2
      have u1 := fun y : Ext w11 => y.cell v1 hg2
      have u2 := fun y : Ext w11 => y.cell v2 hg2
      have u3 := fun y : Ext w11 => y.cell v3 hg2
      clear g0 g1 lg c0 c1 c2 c3 c4 c5 c6 c7 c8 c9 c10 c11 lp v0 v1 v2 v3 hg2
      haveI hne : Nonempty (Ext w11) := Ext.some w11
      refine wp_region_family (Ext.v (W := w11)) (by kernel_rfl) (by kernel_rfl) ⟨⟨_, (Below.refl _ w11).drew⟩, rfl⟩ ?_
      repeat (first | (go_big_quiet_step (fail)))
      refine wpQuiet_nil ?_
      rintro w12 ⟨⟨w12', h12⟩, rfl⟩
      have K12 := Lib.hid (K11.out.next h12)
      clear hne k0 k1 k2 k3 u0 u1 u2 u3 K11 h12
      go_wp2
      go_ret
      exact ⟨rfl, K12.out.h.below⟩
    · have hnt : n0 = false := HN.out.symm.trans (eqP_not.2 hno)
      subst hnt
      have HTW := Lib.hid htw
      clear hno htw
      go_wp2_with fail
      have k0 := fun y : Ext w10 => y.cell c0 lp
      have k1 := fun y : Ext w10 => y.cell c1 lp
      have k2 := fun y : Ext w10 => y.cell c2 lp
      have k3 := fun y : Ext w10 => y.cell c3 lp
      have k4 := fun y : Ext w10 => y.cell c4 lp
      have k5 := fun y : Ext w10 => y.cell c5 lp
      have k6 := fun y : Ext w10 => y.cell c6 lp
      have k7 := fun y : Ext w10 => y.cell c7 lp
      have k8 := fun y : Ext w10 => y.cell c8 lp
      have k9 := fun y : Ext w10 => y.cell c9 lp
      have k10 := fun y : Ext w10 => y.cell c10 lp
      have k11 := fun y : Ext w10 => y.cell c11 lp
      clear g0 g1 lg c0 c1 c2 c3 c4 c5 c6 c7 c8 c9 c10 c11 lp
      haveI hne : Nonempty (Ext w10) := Ext.some w10
      refine wp_region_family (Ext.v (W := w10)) (by kernel_rfl) (by kernel_rfl) ⟨⟨_, (Below.refl _ w10).drew⟩, rfl⟩ ?_
      repeat (first | (refine wpQuiet_eql (by kernel_rfl) rfl p noP rfl rfl false HN.out ?_; refine wpQuiet_keep (fun K hK => ?_); go_simp; refine hK _ ?_; clear hK K) | (go_big_quiet_step (first | (go_at_call 10; exact CNX.out _))))
      refine wpQuiet_nil ?_
      rintro w11 ⟨⟨w11', h11⟩, rfl⟩
      have K11 := Lib.hid (K10.out.next h11)
      clear hne k0 k1 k2 k3 k4 k5 k6 k7 k8 k9 k10 k11 K10 CNX
      have v0 := (h11.cell (p := ⟨g, 0, none⟩) hgl).trans e0
      have v1 := (h11.cell (p := ⟨g, 1, none⟩) hgl).trans e1
      have hg2 := Nat.lt_of_lt_of_le hgl h11.size
      clear h11 e0 e1 hgl
      obtain ⟨⟨g0, g1, lg, _, _⟩, ⟨c0, c1, c2, c3, c4, c5, c6, c7, c8, c9, c10, c11, lp⟩⟩ := id K11.out
      have HN2 : Hid (eqP ⟨p.ag, p.aa, p.bg, p.ba, false, p.sz, p.lv, p.bi, p.q⟩ noP = false) := Lib.hid ((congrArg (fun z => eqP ⟨p.ag, p.aa, p.bg, p.ba, z, p.sz, p.lv, p.bi, p.q⟩ noP) HTW.out).symm.trans HN.out)
      rw [HTW.out] at c4
      go_wp2_with (first | (refine wpList_eql rfl rfl ⟨p.ag, p.aa, p.bg, p.ba, false, p.sz, p.lv, p.bi, p.q⟩ noP rfl rfl false HN2.out ?_) | fail)
      have k0 := fun y : Ext w11 => y.cell c0 lp
      have k1 := fun y : Ext w11 => y.cell c1 lp
      have k2 := fun y : Ext w11 => y.cell c2 lp
      have k3 := fun y : Ext w11 => y.cell c3 lp
      have u0 := fun y : Ext w11 => y.cell v0 hg2
      have u1 := fun y : Ext w11 => y.cell v1 hg2
      clear g0 g1 lg c0 c1 c2 c3 c4 c5 c6 c7 c8 c9 c10 c11 lp v0 v1 hg2
      haveI hne : Nonempty (Ext w11) := Ext.some w11
      refine wp_region_family (Ext.v (W := w11)) (by kernel_rfl) (by kernel_rfl) ⟨⟨_, (Below.refl _ w11).drew⟩, rfl⟩ ?_
      repeat (first | (go_big_quiet_step (fail)))
      refine wpQuiet_nil ?_
      rintro w12 ⟨⟨w12', h12⟩, rfl⟩
      have K12 := Lib.hid (K11.out.next h12)
      clear hne k0 k1 k2 k3 u0 u1 K11 h12
      go_wp2
      go_ret
      exact ⟨rfl, K12.out.h.below⟩
end Go.Proofs.Ythpifplflhhkiaa
