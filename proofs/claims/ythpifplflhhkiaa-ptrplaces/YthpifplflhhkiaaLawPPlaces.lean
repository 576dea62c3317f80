/-
  The walk of polderlaw09.PtrPlaces: it returns true, and writes nothing that was there.
-/
import Derived.Test.YthpifplflhhkiaaQp
import Derived.Test.YthpifplflhhkiaaQi
namespace Go.Proofs.Ythpifplflhhkiaa
set_option maxRecDepth 100000
open Go.RowKit M

/-- A measure and two pointers in boxes, in a world that grew from w0. -/
structure G3 (w0 w : World) (n : Nat) (a : Option Addr) (m c : Nat) (s : Int) (l : List (Int × Int)) (p q : Ptr) : Prop where
  h : Held w0 w n a m c s l
  p : Box w (n + 1) p
  q : Box w (n + 2) q
theorem G3.next {w0 w w' : World} {n : Nat} {a : Option Addr} {m c : Nat} {s : Int} {l : List (Int × Int)} {p q : Ptr} (h : G3 w0 w n a m c s l p q) (k : Below w.heap.size w w') : G3 w0 w' n a m c s l p q := ⟨h.h.next k, h.p.next k, h.q.next k⟩
theorem G3.start {w : World} {a : Option Addr} {m c : Nat} {s : Int} {l : List (Int × Int)} (h : Meas w (.agg #[.slice a m c, .int .i64 s]) l s) (p q : Ptr) :
    G3 w (((w.alloc (.cells #[.slice a m c, .int .i64 s] 41)).alloc (.cells p.cells 28)).alloc (.cells q.cells 28)) w.heap.size a m c s l p q := by
  have h1 := Box.new (w.alloc (.cells #[.slice a m c, .int .i64 s] 41)) p
  have h2 := Box.new ((w.alloc (.cells #[.slice a m c, .int .i64 s] 41)).alloc (.cells p.cells 28)) q
  rw [World.size_alloc] at h1
  rw [World.size_alloc, World.size_alloc] at h2
  exact ⟨((Held.start h).next (boxed _ _)).next (boxed _ _), h1.next (boxed _ _), h2⟩

set_option maxHeartbeats 4000000 in
theorem walk_PtrPlaces (v : Value) (l : List (Int × Int)) (s : Int) (p q : Ptr) (w : World) (hM : Meas w v l s) (hp : p.Ok) (hq : q.Ok) :
    Calls Try.prog 6 #[v, p.val, q.val] w fun e w' => e = .returned (.bool true) ∧ Below w.heap.size w w' := by
  obtain ⟨a, m, c, rfl, hg, s0, s1⟩ := id hM
  have hm := hg.1
  unfold maxLen at hm
  have K := Lib.hid (G3.start hM p q)
  unfold Ptr.cells at K
  clear hM hg
  by_cases hl : 100 < m
  · simp only [Ptr.val, Ptr.cells]
    go_enter Try.func6, Try.ntmps6
    go_wp2_with fail
    refine (awake9_any _).mono ?_
    rintro e w1 ⟨rfl, b1⟩
    have K1 := Lib.hid (K.out.next b1)
    clear b1 K
    have g0 := K1.out.h.c0
    go_wp2_with fail
    refine (awake9_any _).mono ?_
    rintro e w2 ⟨rfl, b2⟩
    have K2 := Lib.hid (K1.out.next b2)
    clear b2 K1 g0
    go_wp2
    go_ret
    exact ⟨rfl, K2.out.h.below⟩
  obtain ⟨b, hb⟩ : ∃ b, mayP p = b := ⟨_, rfl⟩
  obtain ⟨b2, hb2⟩ : ∃ b2, mayP q = b2 := ⟨_, rfl⟩
  obtain ⟨cc, hcc⟩ : ∃ cc, eqP p q = cc := ⟨_, rfl⟩
  obtain ⟨r, hr⟩ : ∃ r, rightP l s p = r := ⟨_, rfl⟩
  have CB := fun w' => bytes9_any p hp w' b hb
  have CB2 := fun w' => bytes9_any q hq w' b2 hb2
  have CR := fun w' (h : Meas w' (.agg #[.slice a m c, .int .i64 s]) l s) => right9_any l s _ w' h p hp r hr
  have CP := fun w' => places_any p w'
  have HRF : Hid (r = true → mayP p = true ∧ eqP p noP = false ∧ (p.two = true → ¬ (p.ag = p.bg ∧ p.aa = p.ba))) := Lib.hid (fun h => right_facts (by rw [hr]; exact h))
  have HEQ : Hid (b = true → b2 = true → ((bytesB b p).toList == (bytesB b2 q).toList) = cc) := Lib.hid (fun h1 h2 => by
    subst h1 h2
    show ((bytesP p).toList == (bytesP q).toList) = cc
    rw [← hcc]
    by_cases e : p = q
    · subst e; rw [eqP_self]; exact beq_list _
    · rw [eqP_not.2 e]; exact beq_not (fun h => e (bytesP_inj hp hq hb hb2 h)))
  have HCC := Lib.hid hcc
  have HB := Lib.hid hb
  have hy1 : b = true → (bytesB b p).size = 64 := fun h => by subst h; exact bytesP_size p
  have hy2 : b2 = true → (bytesB b2 q).size = 64 := fun h => by subst h; exact bytesP_size q
  clear hb hb2 hcc hr hp hq
  simp only [Ptr.val, Ptr.cells] at CB CB2 CR CP ⊢
  replace CB := Lib.hid CB
  replace CB2 := Lib.hid CB2
  replace CR := Lib.hid CR
  replace CP := Lib.hid CP
  cases b with
  | true =>
    replace hy1 := hy1 rfl
    rw [show erB true = 0 from rfl] at CB
    cases b2 with
    | true =>
      replace hy2 := hy2 rfl
      rw [show erB true = 0 from rfl] at CB2
      replace HEQ := HEQ.out rfl rfl
      generalize bytesB true p = y1 at CB HEQ hy1
      generalize bytesB true q = y2 at CB2 HEQ hy2
      go_enter Try.func6, Try.ntmps6
      go_wp2_with fail
      refine (awake9_any _).mono ?_
      rintro e w1 ⟨rfl, b1⟩
      have K1 := Lib.hid (K.out.next b1)
      clear b1 K
      obtain ⟨⟨g0, g1, _, _, _⟩, ⟨c0, c1, c2, c3, c4, c5, c6, c7, c8, c9, c10, c11, lp⟩, ⟨d0, d1, d2, d3, d4, d5, d6, d7, d8, d9, d10, d11, lq⟩⟩ := id K1.out
      go_wp2_with fail
      refine (CB.out _).mono ?_
      rintro e w2 ⟨rfl, b2⟩
      have K2 := Lib.hid (K1.out.next b2)
      clear b2 K1 g0 g1 c0 c1 c2 c3 c4 c5 c6 c7 c8 c9 c10 c11 lp d0 d1 d2 d3 d4 d5 d6 d7 d8 d9 d10 d11 lq
      obtain ⟨⟨g0, g1, _, _, _⟩, ⟨c0, c1, c2, c3, c4, c5, c6, c7, c8, c9, c10, c11, lp⟩, ⟨d0, d1, d2, d3, d4, d5, d6, d7, d8, d9, d10, d11, lq⟩⟩ := id K2.out
      go_wp2_with fail
      refine (CB2.out _).mono ?_
      rintro e w3 ⟨rfl, b3⟩
      have K3 := Lib.hid (K2.out.next b3)
      clear b3 K2 g0 g1 c0 c1 c2 c3 c4 c5 c6 c7 c8 c9 c10 c11 lp d0 d1 d2 d3 d4 d5 d6 d7 d8 d9 d10 d11 lq
      obtain ⟨⟨g0, g1, _, _, _⟩, ⟨c0, c1, c2, c3, c4, c5, c6, c7, c8, c9, c10, c11, lp⟩, ⟨d0, d1, d2, d3, d4, d5, d6, d7, d8, d9, d10, d11, lq⟩⟩ := id K3.out
      go_wp2_with (first | (refine wpList_eql_on (by kernel_rfl) rfl p q rfl rfl cc HCC.out ?_) | fail)
      refine (CP.out _).mono ?_
      rintro e w4 ⟨v, rfl, hv, b4⟩
      have HV := Lib.hid hv
      have K4 := Lib.hid (K3.out.next b4)
      clear b4 K3 hv g0 g1 c0 c1 c2 c3 c4 c5 c6 c7 c8 c9 c10 c11 lp d0 d1 d2 d3 d4 d5 d6 d7 d8 d9 d10 d11 lq
      obtain ⟨⟨g0, g1, _, _, _⟩, ⟨c0, c1, c2, c3, c4, c5, c6, c7, c8, c9, c10, c11, lp⟩, ⟨d0, d1, d2, d3, d4, d5, d6, d7, d8, d9, d10, d11, lq⟩⟩ := id K4.out
      cases r with
      | false =>
        go_wp2_with fail
        refine (CR.out _ K4.out.h.m).mono ?_
        rintro e w5 ⟨rfl, b5⟩
        have K5 := Lib.hid (K4.out.next b5)
        clear b5 K4 g0 g1 c0 c1 c2 c3 c4 c5 c6 c7 c8 c9 c10 c11 lp d0 d1 d2 d3 d4 d5 d6 d7 d8 d9 d10 d11 lq CR
        rcases HV.out with ⟨_, rfl⟩ | ⟨_, _, g, rfl, _⟩ | ⟨_, _, g, rfl, _⟩
        · go_wp2
          go_ret
          exact ⟨rfl, K5.out.h.below⟩
        · go_wp2
          go_ret
          exact ⟨rfl, K5.out.h.below⟩
        · go_wp2
          go_ret
          exact ⟨rfl, K5.out.h.below⟩
      | true =>
        have HNP := Lib.hid (HRF.out rfl).2.1
        have CN := fun w' => none_any p w' false HNP.out
        simp only [Ptr.val, Ptr.cells] at CN
        have HNE := Lib.hid (HRF.out rfl).2.2
        go_wp2_with fail
        refine (CR.out _ K4.out.h.m).mono ?_
        rintro e w5 ⟨rfl, b5⟩
        have K5 := Lib.hid (K4.out.next b5)
        clear K4 g0 g1 c0 c1 c2 c3 c4 c5 c6 c7 c8 c9 c10 c11 lp d0 d1 d2 d3 d4 d5 d6 d7 d8 d9 d10 d11 lq CR
        have CNE : Hid (∀ y : Ext w5, Calls Try.prog 10 #[.agg #[.int .i64 p.ag, .int .i64 p.aa, .int .i64 p.bg, .int .i64 p.ba, .bool p.two, .int .i64 p.sz, .int .i64 p.lv, .int .i64 p.bi, .int .u64 p.q.a, .int .u64 p.q.b, .int .u64 p.q.c, .int .u64 p.q.d]] y.v fun e w' => e = .returned (.bool false) ∧ ∃ y' : Ext w5, w' = y'.v) := Lib.hid (Ext.calls fun w' _ => CN w')
        clear CN
        obtain ⟨_, ⟨c0, c1, c2, c3, c4, c5, c6, c7, c8, c9, c10, c11, lp⟩, _⟩ := id K5.out
        rcases HV.out with ⟨hno, rfl⟩ | ⟨_, ht, g, rfl, hgl, e0, e1, e2, e3⟩ | ⟨_, ht, g, rfl, hgl, e0, e1⟩
        · exact absurd (eqP_iff.2 hno) (by rw [HNP.out]; decide)
        · have hn2 := HNE.out ht
          rw [ht] at CNE c4
          have z0 := (b5.cell (p := ⟨g, 0, none⟩) hgl).trans e0
          have z1 := (b5.cell (p := ⟨g, 1, none⟩) hgl).trans e1
          have z2 := (b5.cell (p := ⟨g, 2, none⟩) hgl).trans e2
          have z3 := (b5.cell (p := ⟨g, 3, none⟩) hgl).trans e3
          have hgl5 := Nat.lt_of_lt_of_le hgl b5.size
          have m0 := fun y : Ext w5 => y.cell z0 hgl5
          have m1 := fun y : Ext w5 => y.cell z1 hgl5
          have m2 := fun y : Ext w5 => y.cell z2 hgl5
          have m3 := fun y : Ext w5 => y.cell z3 hgl5
          have HT := Lib.hid ht
          clear b5 ht z0 z1 z2 z3 e0 e1 e2 e3 hgl hgl5
          by_cases h1 : p.ag = p.bg
          · have h2 : ¬ p.aa = p.ba := fun e => hn2 ⟨h1, e⟩
            clear hn2 h1
            go_wp2_with fail
            have k0 := fun y : Ext w5 => y.cell c0 lp
            have k1 := fun y : Ext w5 => y.cell c1 lp
            have k2 := fun y : Ext w5 => y.cell c2 lp
            have k3 := fun y : Ext w5 => y.cell c3 lp
            have k4 := fun y : Ext w5 => y.cell c4 lp
            have k5 := fun y : Ext w5 => y.cell c5 lp
            have k6 := fun y : Ext w5 => y.cell c6 lp
            have k7 := fun y : Ext w5 => y.cell c7 lp
            have k8 := fun y : Ext w5 => y.cell c8 lp
            have k9 := fun y : Ext w5 => y.cell c9 lp
            have k10 := fun y : Ext w5 => y.cell c10 lp
            have k11 := fun y : Ext w5 => y.cell c11 lp
            clear c0 c1 c2 c3 c4 c5 c6 c7 c8 c9 c10 c11
            haveI hne : Nonempty (Ext w5) := Ext.some w5
            refine wp_region_family (Ext.v (W := w5)) (by kernel_rfl) (by kernel_rfl) ⟨⟨_, (Below.refl _ w5).drew⟩, rfl⟩ ?_
            repeat (go_big_quiet_step (first | (go_at_call 10; exact CNE.out _)))
            refine wpQuiet_nil ?_
            rintro w7 ⟨⟨w8, h8⟩, rfl⟩
            clear hne k0 k1 k2 k3 k4 k5 k6 k7 k8 k9 k10 k11
            go_wp2
            go_ret
            exact ⟨rfl, next K5.out.h.below h8⟩
          · clear hn2
            go_wp2_with fail
            have k0 := fun y : Ext w5 => y.cell c0 lp
            have k1 := fun y : Ext w5 => y.cell c1 lp
            have k2 := fun y : Ext w5 => y.cell c2 lp
            have k3 := fun y : Ext w5 => y.cell c3 lp
            have k4 := fun y : Ext w5 => y.cell c4 lp
            have k5 := fun y : Ext w5 => y.cell c5 lp
            have k6 := fun y : Ext w5 => y.cell c6 lp
            have k7 := fun y : Ext w5 => y.cell c7 lp
            have k8 := fun y : Ext w5 => y.cell c8 lp
            have k9 := fun y : Ext w5 => y.cell c9 lp
            have k10 := fun y : Ext w5 => y.cell c10 lp
            have k11 := fun y : Ext w5 => y.cell c11 lp
            clear c0 c1 c2 c3 c4 c5 c6 c7 c8 c9 c10 c11
            haveI hne : Nonempty (Ext w5) := Ext.some w5
            refine wp_region_family (Ext.v (W := w5)) (by kernel_rfl) (by kernel_rfl) ⟨⟨_, (Below.refl _ w5).drew⟩, rfl⟩ ?_
            repeat (go_big_quiet_step (first | (go_at_call 10; exact CNE.out _)))
            refine wpQuiet_nil ?_
            rintro w7 ⟨⟨w8, h8⟩, rfl⟩
            clear hne k0 k1 k2 k3 k4 k5 k6 k7 k8 k9 k10 k11
            go_wp2
            go_ret
            exact ⟨rfl, next K5.out.h.below h8⟩
        · rw [ht] at CNE c4
          have HT := Lib.hid ht
          clear b5 ht e0 e1 hgl
          go_wp2_with fail
          have k0 := fun y : Ext w5 => y.cell c0 lp
          have k1 := fun y : Ext w5 => y.cell c1 lp
          have k2 := fun y : Ext w5 => y.cell c2 lp
          have k3 := fun y : Ext w5 => y.cell c3 lp
          have k4 := fun y : Ext w5 => y.cell c4 lp
          have k5 := fun y : Ext w5 => y.cell c5 lp
          have k6 := fun y : Ext w5 => y.cell c6 lp
          have k7 := fun y : Ext w5 => y.cell c7 lp
          have k8 := fun y : Ext w5 => y.cell c8 lp
          have k9 := fun y : Ext w5 => y.cell c9 lp
          have k10 := fun y : Ext w5 => y.cell c10 lp
          have k11 := fun y : Ext w5 => y.cell c11 lp
          clear c0 c1 c2 c3 c4 c5 c6 c7 c8 c9 c10 c11
          haveI hne : Nonempty (Ext w5) := Ext.some w5
          refine wp_region_family (Ext.v (W := w5)) (by kernel_rfl) (by kernel_rfl) ⟨⟨_, (Below.refl _ w5).drew⟩, rfl⟩ ?_
          repeat (go_big_quiet_step (first | (go_at_call 10; exact CNE.out _)))
          refine wpQuiet_nil ?_
          rintro w7 ⟨⟨w8, h8⟩, rfl⟩
          clear hne k0 k1 k2 k3 k4 k5 k6 k7 k8 k9 k10 k11
          go_wp2
          go_ret
          exact ⟨rfl, next K5.out.h.below h8⟩
    | false =>
      clear hy2 HEQ
      rw [show erB false = 1 from rfl] at CB2
      generalize bytesB true p = y1 at CB hy1
      go_enter Try.func6, Try.ntmps6
      go_wp2_with fail
      refine (awake9_any _).mono ?_
      rintro e w1 ⟨rfl, b1⟩
      have K1 := Lib.hid (K.out.next b1)
      clear b1 K
      obtain ⟨⟨g0, g1, _, _, _⟩, ⟨c0, c1, c2, c3, c4, c5, c6, c7, c8, c9, c10, c11, lp⟩, ⟨d0, d1, d2, d3, d4, d5, d6, d7, d8, d9, d10, d11, lq⟩⟩ := id K1.out
      go_wp2_with fail
      refine (CB.out _).mono ?_
      rintro e w2 ⟨rfl, b2⟩
      have K2 := Lib.hid (K1.out.next b2)
      clear b2 K1 g0 g1 c0 c1 c2 c3 c4 c5 c6 c7 c8 c9 c10 c11 lp d0 d1 d2 d3 d4 d5 d6 d7 d8 d9 d10 d11 lq
      obtain ⟨⟨g0, g1, _, _, _⟩, ⟨c0, c1, c2, c3, c4, c5, c6, c7, c8, c9, c10, c11, lp⟩, ⟨d0, d1, d2, d3, d4, d5, d6, d7, d8, d9, d10, d11, lq⟩⟩ := id K2.out
      go_wp2_with fail
      refine (CB2.out _).mono ?_
      rintro e w3 ⟨rfl, b3⟩
      have K3 := Lib.hid (K2.out.next b3)
      clear b3 K2 g0 g1 c0 c1 c2 c3 c4 c5 c6 c7 c8 c9 c10 c11 lp d0 d1 d2 d3 d4 d5 d6 d7 d8 d9 d10 d11 lq
      obtain ⟨⟨g0, g1, _, _, _⟩, ⟨c0, c1, c2, c3, c4, c5, c6, c7, c8, c9, c10, c11, lp⟩, ⟨d0, d1, d2, d3, d4, d5, d6, d7, d8, d9, d10, d11, lq⟩⟩ := id K3.out
      go_wp2_with (fail)
      refine (CP.out _).mono ?_
      rintro e w4 ⟨v, rfl, hv, b4⟩
      have HV := Lib.hid hv
      have K4 := Lib.hid (K3.out.next b4)
      clear b4 K3 hv g0 g1 c0 c1 c2 c3 c4 c5 c6 c7 c8 c9 c10 c11 lp d0 d1 d2 d3 d4 d5 d6 d7 d8 d9 d10 d11 lq
      obtain ⟨⟨g0, g1, _, _, _⟩, ⟨c0, c1, c2, c3, c4, c5, c6, c7, c8, c9, c10, c11, lp⟩, ⟨d0, d1, d2, d3, d4, d5, d6, d7, d8, d9, d10, d11, lq⟩⟩ := id K4.out
      cases r with
      | false =>
        go_wp2_with fail
        refine (CR.out _ K4.out.h.m).mono ?_
        rintro e w5 ⟨rfl, b5⟩
        have K5 := Lib.hid (K4.out.next b5)
        clear b5 K4 g0 g1 c0 c1 c2 c3 c4 c5 c6 c7 c8 c9 c10 c11 lp d0 d1 d2 d3 d4 d5 d6 d7 d8 d9 d10 d11 lq CR
        rcases HV.out with ⟨_, rfl⟩ | ⟨_, _, g, rfl, _⟩ | ⟨_, _, g, rfl, _⟩
        · go_wp2
          go_ret
          exact ⟨rfl, K5.out.h.below⟩
        · go_wp2
          go_ret
          exact ⟨rfl, K5.out.h.below⟩
        · go_wp2
          go_ret
          exact ⟨rfl, K5.out.h.below⟩
      | true =>
        have HNP := Lib.hid (HRF.out rfl).2.1
        have CN := fun w' => none_any p w' false HNP.out
        simp only [Ptr.val, Ptr.cells] at CN
        have HNE := Lib.hid (HRF.out rfl).2.2
        go_wp2_with fail
        refine (CR.out _ K4.out.h.m).mono ?_
        rintro e w5 ⟨rfl, b5⟩
        have K5 := Lib.hid (K4.out.next b5)
        clear K4 g0 g1 c0 c1 c2 c3 c4 c5 c6 c7 c8 c9 c10 c11 lp d0 d1 d2 d3 d4 d5 d6 d7 d8 d9 d10 d11 lq CR
        have CNE : Hid (∀ y : Ext w5, Calls Try.prog 10 #[.agg #[.int .i64 p.ag, .int .i64 p.aa, .int .i64 p.bg, .int .i64 p.ba, .bool p.two, .int .i64 p.sz, .int .i64 p.lv, .int .i64 p.bi, .int .u64 p.q.a, .int .u64 p.q.b, .int .u64 p.q.c, .int .u64 p.q.d]] y.v fun e w' => e = .returned (.bool false) ∧ ∃ y' : Ext w5, w' = y'.v) := Lib.hid (Ext.calls fun w' _ => CN w')
        clear CN
        obtain ⟨_, ⟨c0, c1, c2, c3, c4, c5, c6, c7, c8, c9, c10, c11, lp⟩, _⟩ := id K5.out
        rcases HV.out with ⟨hno, rfl⟩ | ⟨_, ht, g, rfl, hgl, e0, e1, e2, e3⟩ | ⟨_, ht, g, rfl, hgl, e0, e1⟩
        · exact absurd (eqP_iff.2 hno) (by rw [HNP.out]; decide)
        · have hn2 := HNE.out ht
          rw [ht] at CNE c4
          have z0 := (b5.cell (p := ⟨g, 0, none⟩) hgl).trans e0
          have z1 := (b5.cell (p := ⟨g, 1, none⟩) hgl).trans e1
          have z2 := (b5.cell (p := ⟨g, 2, none⟩) hgl).trans e2
          have z3 := (b5.cell (p := ⟨g, 3, none⟩) hgl).trans e3
          have hgl5 := Nat.lt_of_lt_of_le hgl b5.size
          have m0 := fun y : Ext w5 => y.cell z0 hgl5
          have m1 := fun y : Ext w5 => y.cell z1 hgl5
          have m2 := fun y : Ext w5 => y.cell z2 hgl5
          have m3 := fun y : Ext w5 => y.cell z3 hgl5
          have HT := Lib.hid ht
          clear b5 ht z0 z1 z2 z3 e0 e1 e2 e3 hgl hgl5
          by_cases h1 : p.ag = p.bg
          · have h2 : ¬ p.aa = p.ba := fun e => hn2 ⟨h1, e⟩
            clear hn2 h1
            go_wp2_with fail
            have k0 := fun y : Ext w5 => y.cell c0 lp
            have k1 := fun y : Ext w5 => y.cell c1 lp
            have k2 := fun y : Ext w5 => y.cell c2 lp
            have k3 := fun y : Ext w5 => y.cell c3 lp
            have k4 := fun y : Ext w5 => y.cell c4 lp
            have k5 := fun y : Ext w5 => y.cell c5 lp
            have k6 := fun y : Ext w5 => y.cell c6 lp
            have k7 := fun y : Ext w5 => y.cell c7 lp
            have k8 := fun y : Ext w5 => y.cell c8 lp
            have k9 := fun y : Ext w5 => y.cell c9 lp
            have k10 := fun y : Ext w5 => y.cell c10 lp
            have k11 := fun y : Ext w5 => y.cell c11 lp
            clear c0 c1 c2 c3 c4 c5 c6 c7 c8 c9 c10 c11
            haveI hne : Nonempty (Ext w5) := Ext.some w5
            refine wp_region_family (Ext.v (W := w5)) (by kernel_rfl) (by kernel_rfl) ⟨⟨_, (Below.refl _ w5).drew⟩, rfl⟩ ?_
            repeat (go_big_quiet_step (first | (go_at_call 10; exact CNE.out _)))
            refine wpQuiet_nil ?_
            rintro w7 ⟨⟨w8, h8⟩, rfl⟩
            clear hne k0 k1 k2 k3 k4 k5 k6 k7 k8 k9 k10 k11
            go_wp2
            go_ret
            exact ⟨rfl, next K5.out.h.below h8⟩
          · clear hn2
            go_wp2_with fail
            have k0 := fun y : Ext w5 => y.cell c0 lp
            have k1 := fun y : Ext w5 => y.cell c1 lp
            have k2 := fun y : Ext w5 => y.cell c2 lp
            have k3 := fun y : Ext w5 => y.cell c3 lp
            have k4 := fun y : Ext w5 => y.cell c4 lp
            have k5 := fun y : Ext w5 => y.cell c5 lp
            have k6 := fun y : Ext w5 => y.cell c6 lp
            have k7 := fun y : Ext w5 => y.cell c7 lp
            have k8 := fun y : Ext w5 => y.cell c8 lp
            have k9 := fun y : Ext w5 => y.cell c9 lp
            have k10 := fun y : Ext w5 => y.cell c10 lp
            have k11 := fun y : Ext w5 => y.cell c11 lp
            clear c0 c1 c2 c3 c4 c5 c6 c7 c8 c9 c10 c11
            haveI hne : Nonempty (Ext w5) := Ext.some w5
            refine wp_region_family (Ext.v (W := w5)) (by kernel_rfl) (by kernel_rfl) ⟨⟨_, (Below.refl _ w5).drew⟩, rfl⟩ ?_
            repeat (go_big_quiet_step (first | (go_at_call 10; exact CNE.out _)))
            refine wpQuiet_nil ?_
            rintro w7 ⟨⟨w8, h8⟩, rfl⟩
            clear hne k0 k1 k2 k3 k4 k5 k6 k7 k8 k9 k10 k11
            go_wp2
            go_ret
            exact ⟨rfl, next K5.out.h.below h8⟩
        · rw [ht] at CNE c4
          have HT := Lib.hid ht
          clear b5 ht e0 e1 hgl
          go_wp2_with fail
          have k0 := fun y : Ext w5 => y.cell c0 lp
          have k1 := fun y : Ext w5 => y.cell c1 lp
          have k2 := fun y : Ext w5 => y.cell c2 lp
          have k3 := fun y : Ext w5 => y.cell c3 lp
          have k4 := fun y : Ext w5 => y.cell c4 lp
          have k5 := fun y : Ext w5 => y.cell c5 lp
          have k6 := fun y : Ext w5 => y.cell c6 lp
          have k7 := fun y : Ext w5 => y.cell c7 lp
          have k8 := fun y : Ext w5 => y.cell c8 lp
          have k9 := fun y : Ext w5 => y.cell c9 lp
          have k10 := fun y : Ext w5 => y.cell c10 lp
          have k11 := fun y : Ext w5 => y.cell c11 lp
          clear c0 c1 c2 c3 c4 c5 c6 c7 c8 c9 c10 c11
          haveI hne : Nonempty (Ext w5) := Ext.some w5
          refine wp_region_family (Ext.v (W := w5)) (by kernel_rfl) (by kernel_rfl) ⟨⟨_, (Below.refl _ w5).drew⟩, rfl⟩ ?_
          repeat (go_big_quiet_step (first | (go_at_call 10; exact CNE.out _)))
          refine wpQuiet_nil ?_
          rintro w7 ⟨⟨w8, h8⟩, rfl⟩
          clear hne k0 k1 k2 k3 k4 k5 k6 k7 k8 k9 k10 k11
          go_wp2
          go_ret
          exact ⟨rfl, next K5.out.h.below h8⟩
  | false =>
    clear hy1 hy2 HEQ
    rw [show erB false = 1 from rfl] at CB
    go_enter Try.func6, Try.ntmps6
    go_wp2_with fail
    refine (awake9_any _).mono ?_
    rintro e w1 ⟨rfl, b1⟩
    have K1 := Lib.hid (K.out.next b1)
    clear b1 K
    obtain ⟨⟨g0, g1, _, _, _⟩, ⟨c0, c1, c2, c3, c4, c5, c6, c7, c8, c9, c10, c11, lp⟩, ⟨d0, d1, d2, d3, d4, d5, d6, d7, d8, d9, d10, d11, lq⟩⟩ := id K1.out
    go_wp2_with fail
    refine (CB.out _).mono ?_
    rintro e w2 ⟨rfl, b2⟩
    have K2 := Lib.hid (K1.out.next b2)
    clear b2 K1 g0 g1 c0 c1 c2 c3 c4 c5 c6 c7 c8 c9 c10 c11 lp d0 d1 d2 d3 d4 d5 d6 d7 d8 d9 d10 d11 lq
    obtain ⟨⟨g0, g1, _, _, _⟩, ⟨c0, c1, c2, c3, c4, c5, c6, c7, c8, c9, c10, c11, lp⟩, ⟨d0, d1, d2, d3, d4, d5, d6, d7, d8, d9, d10, d11, lq⟩⟩ := id K2.out
    go_wp2_with fail
    refine (CB2.out _).mono ?_
    rintro e w3 ⟨rfl, b3⟩
    have K3 := Lib.hid (K2.out.next b3)
    clear b3 K2 g0 g1 c0 c1 c2 c3 c4 c5 c6 c7 c8 c9 c10 c11 lp d0 d1 d2 d3 d4 d5 d6 d7 d8 d9 d10 d11 lq
    obtain ⟨⟨g0, g1, _, _, _⟩, ⟨c0, c1, c2, c3, c4, c5, c6, c7, c8, c9, c10, c11, lp⟩, ⟨d0, d1, d2, d3, d4, d5, d6, d7, d8, d9, d10, d11, lq⟩⟩ := id K3.out
    go_wp2_with (fail)
    refine (CP.out _).mono ?_
    rintro e w4 ⟨v, rfl, hv, b4⟩
    have HV := Lib.hid hv
    have K4 := Lib.hid (K3.out.next b4)
    clear b4 K3 hv g0 g1 c0 c1 c2 c3 c4 c5 c6 c7 c8 c9 c10 c11 lp d0 d1 d2 d3 d4 d5 d6 d7 d8 d9 d10 d11 lq
    obtain ⟨⟨g0, g1, _, _, _⟩, ⟨c0, c1, c2, c3, c4, c5, c6, c7, c8, c9, c10, c11, lp⟩, ⟨d0, d1, d2, d3, d4, d5, d6, d7, d8, d9, d10, d11, lq⟩⟩ := id K4.out
    cases r with
    | false =>
      go_wp2_with fail
      refine (CR.out _ K4.out.h.m).mono ?_
      rintro e w5 ⟨rfl, b5⟩
      have K5 := Lib.hid (K4.out.next b5)
      clear b5 K4 g0 g1 c0 c1 c2 c3 c4 c5 c6 c7 c8 c9 c10 c11 lp d0 d1 d2 d3 d4 d5 d6 d7 d8 d9 d10 d11 lq CR
      rcases HV.out with ⟨_, rfl⟩ | ⟨_, _, g, rfl, _⟩ | ⟨_, _, g, rfl, _⟩
      · go_wp2
        go_ret
        exact ⟨rfl, K5.out.h.below⟩
      · go_wp2
        go_ret
        exact ⟨rfl, K5.out.h.below⟩
      · go_wp2
        go_ret
        exact ⟨rfl, K5.out.h.below⟩
    | true =>
      exact absurd ((HRF.out rfl).1.symm.trans HB.out) (by decide)
end Go.Proofs.Ythpifplflhhkiaa
