/-
  The walk of polderlaw06.ColsApart.
-/
import Derived.Test.YtebejoigdofonaaCg
import Derived.Test.YtebejoigdofonaaCh
import Derived.Test.YtebejoigdofonaaCo
import Derived.Test.YtebejoigdofonaaCx
namespace Go.Proofs.Ytebejoigdofonaa
open Go.RowKit

theorem new_two (U : World) (x y : Value) (ty : TypeId) (b : Nat) (hb : U.heap.size = b) : (U.alloc (.cells #[x, y] ty)).cell? ⟨b, 0, none⟩ = some x ∧ (U.alloc (.cells #[x, y] ty)).cell? ⟨b, 1, none⟩ = some y := by
  subst hb; simp

/-- A measure and two places in boxes, in a world that grew from w0. -/
structure HeldQ (w0 w : World) (b p q : Nat) (a : Option Addr) (n c : Nat) (s : Int) (l : List (Int × Int)) (k t k' t' : Int) : Prop where
  h : HeldP w0 w b p a n c s l k t
  q0 : w.cell? ⟨q, 0, none⟩ = some (.int .i64 k')
  q1 : w.cell? ⟨q, 1, none⟩ = some (.int .i64 t')
  qlt : q < w.heap.size
theorem HeldQ.next {w0 w w' : World} {b p q : Nat} {a : Option Addr} {n c : Nat} {s : Int} {l : List (Int × Int)} {k t k' t' : Int} (h : HeldQ w0 w b p q a n c s l k t k' t') (kb : Below w.heap.size w w') : HeldQ w0 w' b p q a n c s l k t k' t' :=
  ⟨h.h.next kb, by rw [kb.cell (p := ⟨q, 0, none⟩) h.qlt]; exact h.q0, by rw [kb.cell (p := ⟨q, 1, none⟩) h.qlt]; exact h.q1, Nat.lt_of_lt_of_le h.qlt kb.size⟩
theorem HeldQ.start {w : World} {a : Option Addr} {n c : Nat} {s : Int} {l : List (Int × Int)} (k t k' t' : Int) (h : Meas w (.agg #[.slice a n c, .int .i64 s]) l s) :
    HeldQ w (((w.alloc (.cells #[.slice a n c, .int .i64 s] 24)).alloc (.cells #[.int .i64 k, .int .i64 t] 26)).alloc (.cells #[.int .i64 k', .int .i64 t'] 26)) w.heap.size (w.heap.size + 1) (w.heap.size + 1 + 1) a n c s l k t k' t' :=
  ⟨(HeldP.start k t h).next (boxed _ _), (new_two _ _ _ _ _ (by simp)).1, (new_two _ _ _ _ _ (by simp)).2, by simp⟩
structure KQ (w0 : World) (b p q : Nat) (a : Option Addr) (n c : Nat) (s : Int) (l : List (Int × Int)) (k t k' t' : Int) where
  v : World
  h : HeldQ w0 v b p q a n c s l k t k' t'
theorem HeldQ.drew {w0 w : World} {b p q : Nat} {a : Option Addr} {n c : Nat} {s : Int} {l : List (Int × Int)} {k t k' t' : Int} (h : HeldQ w0 w b p q a n c s l k t k' t') : HeldQ w0 w.drew b p q a n c s l k t k' t' := h.next (Below.refl _ w).drew

set_option maxHeartbeats 2000000 in
set_option maxRecDepth 100000 in
theorem walk_ColsApart (v : Value) (l : List (Int × Int)) (s k t k' t' z z' : Int) (w : World) (h : Meas w v l s) (hk : I64 k) (ht : I64 t) (hk' : I64 k') (ht' : I64 t') (hz : (Lit.int .i64 z).wf = true) (hz' : (Lit.int .i64 z').wf = true) :
    Calls Try.prog 3 #[v, .agg #[.int .i64 k, .int .i64 t], .agg #[.int .i64 k', .int .i64 t'], .int .i64 z, .int .i64 z'] w fun e w' => e = .returned (.bool true) ∧ Below w.heap.size w w' := by
  have K1 := h
  obtain ⟨a, n, c, rfl, hg⟩ := id h
  replace K1 := Lib.hid (HeldQ.start k t k' t' K1)
  have HK := Lib.hid hk
  have HT := Lib.hid ht
  have HK' := Lib.hid hk'
  have HT' := Lib.hid ht'
  have HZ := Lib.hid (bounds_i64 hz)
  have HZ' := Lib.hid (bounds_i64 hz')
  clear h hg hk ht hk' ht' hz hz'
  go_enter Try.func3, Try.ntmps3
  go_wp2_with fail
  refine (of_any l s _ _ K1.out.h.h.m k t z HK.out HT.out HZ.out).mono ?_
  rintro e w1 ⟨v1, er1, rfl, hO1, b1⟩
  have K2 := Lib.hid (K1.out.next b1)
  have HO1 := Lib.hid hO1
  clear hO1 b1 K1
  have c0 := K2.out.h.h.c0
  have c1 := K2.out.h.h.c1
  have q0 := K2.out.q0
  have q1 := K2.out.q1
  go_wp2_with fail
  refine (of_any l s _ _ K2.out.h.h.m k' t' z' HK'.out HT'.out HZ'.out).mono ?_
  rintro e w2 ⟨v2, er2, rfl, hO2, b2⟩
  have K3 := Lib.hid (K2.out.next b2)
  have B2 := Lib.hid b2
  have HO2 := Lib.hid hO2
  clear hO2 b2 c0 c1 q0 q1
  go_wp2_with fail
  refine (awake6 _).mono ?_
  rintro e w3 ⟨rfl, b3⟩
  have K4 := Lib.hid (K3.out.next b3)
  have B3 := Lib.hid b3
  clear b3
  rcases HO1.out with ⟨_, rfl, rfl⟩ | ⟨k1, t1, z1, rfl, rfl, rfl, hB1, rfl, hL1⟩
  · go_wp2_with fail
    refine (awake6 _).mono ?_
    rintro e w4 ⟨rfl, b4⟩
    go_wp2
    go_ret
    exact ⟨rfl, next K4.out.h.h.below b4⟩
  rcases HO2.out with ⟨_, rfl, rfl⟩ | ⟨k2, t2, z2, rfl, rfl, rfl, hB2, rfl, hL2⟩
  · have HL1 := Lib.hid hL1
    clear hL1 hB1
    go_wp2_with fail
    refine (awake6 _).mono ?_
    rintro e w4 ⟨rfl, b4⟩
    go_wp2
    go_ret
    exact ⟨rfl, next K4.out.h.h.below b4⟩
  have HV1 := Lib.hid ((hL1.v.next B2.out).next B3.out)
  have HV2 := Lib.hid (hL2.v.next B3.out)
  have HB1 := Lib.hid hB1
  have HB2 := Lib.hid hB2
  clear hL1 hL2 hB1 hB2 HO1 HO2 B2 B3 K2 K3 HK HT HK' HT' HZ HZ'
  obtain ⟨x1, hx1⟩ : ∃ x, takesG (l[k1]'HB1.out.hk) z1 = x := ⟨_, rfl⟩
  obtain ⟨x2, hx2⟩ : ∃ x, takesG (l[k2]'HB2.out.hk) z2 = x := ⟨_, rfl⟩
  obtain ⟨y1, y2⟩ : 1 ≤ x1 ∧ x1 ≤ 6 := by have := takesG_pos (l[k1]'HB1.out.hk) z1 (by have := HB1.out.z1; omega) (by have := HB1.out.z4; omega); omega
  obtain ⟨y3, y4⟩ : 1 ≤ x2 ∧ x2 ≤ 6 := by have := takesG_pos (l[k2]'HB2.out.hk) z2 (by have := HB2.out.z1; omega) (by have := HB2.out.z4; omega); omega
  obtain ⟨y5, y6⟩ := HB1.out.bounds
  obtain ⟨y7, y8⟩ := HB2.out.bounds
  have HX1 : Hid (∃ h : k1 < l.length, takesG l[k1] z1 = x1) := Lib.hid ⟨_, hx1⟩
  have HX2 : Hid (∃ h : k2 < l.length, takesG l[k2] z2 = x2) := Lib.hid ⟨_, hx2⟩
  clear hx1 hx2
  go_upto_region 5 with (fail)
  go_cut [15] (fun s15 wc => ∃ ap : Bool, s15 = .bool ap ∧ Hid (ap = true → k1 ≠ k2 ∨ (t1 : Int) + x1 ≤ t2 ∨ (t2 : Int) + x2 ≤ t1) ∧ Hid (Below w3.heap.size w3 wc))
  case first =>
    have CT1 : Hid (∀ q : Ext w3, Calls Try.prog 10 #[.agg #[.slice a n c, .int .i64 s], .int .i64 (k1 : Int), .int .i64 (z1 : Int)] q.v fun e w' => e = .returned (.int .i64 x1) ∧ ∃ q' : Ext w3, w' = q'.v) :=
      Lib.hid (Ext.calls fun w' hb => takes_some l s _ _ (K4.out.next hb).h.h.m HB1.out.right k1 HB1.out.hk z1 (by have := HB1.out.z1; omega) (by have := HB1.out.z4; omega) x1 HX1.out.2)
    have CT2 : Hid (∀ q : Ext w3, Calls Try.prog 10 #[.agg #[.slice a n c, .int .i64 s], .int .i64 (k2 : Int), .int .i64 (z2 : Int)] q.v fun e w' => e = .returned (.int .i64 x2) ∧ ∃ q' : Ext w3, w' = q'.v) :=
      Lib.hid (Ext.calls fun w' hb => takes_some l s _ _ (K4.out.next hb).h.h.m HB2.out.right k2 HB2.out.hk z2 (by have := HB2.out.z1; omega) (by have := HB2.out.z4; omega) x2 HX2.out.2)
    have g0 := fun q : Ext w3 => q.cell K4.out.h.h.c0 K4.out.h.h.lt
    have g1 := fun q : Ext w3 => q.cell K4.out.h.h.c1 K4.out.h.h.lt
    have g2 := fun q : Ext w3 => q.cell K4.out.h.p0 K4.out.h.plt
    have g3 := fun q : Ext w3 => q.cell K4.out.h.p1 K4.out.h.plt
    have g4 := fun q : Ext w3 => q.cell K4.out.q0 K4.out.qlt
    have g5 := fun q : Ext w3 => q.cell K4.out.q1 K4.out.qlt
    by_cases hkk : k1 = k2
    · have hd0 : ((k1 : Int) != (k2 : Int)) = false := by simp [hkk]
      have HKK := Lib.hid hkk
      clear hkk
      by_cases hd : (t1 : Int) + x1 ≤ t2
      · have hd1 : decide ((t1 : Int) + x1 ≤ t2) = true := decide_eq_true hd
        haveI hne : Nonempty (Ext w3) := Ext.some w3
        refine wp_region_family (Ext.v (W := w3)) (by kernel_rfl) (by kernel_rfl) ⟨⟨_, (Below.refl _ w3).drew⟩, rfl⟩ ?_
        repeat (go_big_quiet_step (first | (go_at_call_of 10 (Value.int IntKind.i64 (z1 : Int)); exact CT1.out _) | (go_at_call_of 10 (Value.int IntKind.i64 (z2 : Int)); exact CT2.out _)))
        refine wpQuiet_nil ?_
        rintro w7 ⟨⟨w8, h8⟩, rfl⟩
        go_wp2_with fail
        go_meet
        exact ⟨true, rfl, Lib.hid fun _ => .inr (.inl hd), Lib.hid h8⟩
      · have hd1 : decide ((t1 : Int) + x1 ≤ t2) = false := decide_eq_false hd
        by_cases hd' : (t2 : Int) + x2 ≤ t1
        · have hd2 : decide ((t2 : Int) + x2 ≤ t1) = true := decide_eq_true hd'
          haveI hne : Nonempty (Ext w3) := Ext.some w3
          refine wp_region_family (Ext.v (W := w3)) (by kernel_rfl) (by kernel_rfl) ⟨⟨_, (Below.refl _ w3).drew⟩, rfl⟩ ?_
          repeat (go_big_quiet_step (first | (go_at_call_of 10 (Value.int IntKind.i64 (z1 : Int)); exact CT1.out _) | (go_at_call_of 10 (Value.int IntKind.i64 (z2 : Int)); exact CT2.out _)))
          refine wpQuiet_nil ?_
          rintro w7 ⟨⟨w8, h8⟩, rfl⟩
          go_wp2_with fail
          go_meet
          exact ⟨true, rfl, Lib.hid fun _ => .inr (.inr hd'), Lib.hid h8⟩
        · have hd2 : decide ((t2 : Int) + x2 ≤ t1) = false := decide_eq_false hd'
          haveI hne : Nonempty (Ext w3) := Ext.some w3
          refine wp_region_family (Ext.v (W := w3)) (by kernel_rfl) (by kernel_rfl) ⟨⟨_, (Below.refl _ w3).drew⟩, rfl⟩ ?_
          repeat (go_big_quiet_step (first | (go_at_call_of 10 (Value.int IntKind.i64 (z1 : Int)); exact CT1.out _) | (go_at_call_of 10 (Value.int IntKind.i64 (z2 : Int)); exact CT2.out _)))
          refine wpQuiet_nil ?_
          rintro w7 ⟨⟨w8, h8⟩, rfl⟩
          go_wp2_with fail
          go_meet
          exact ⟨false, rfl, Lib.hid fun h => (by cases h), Lib.hid h8⟩
    · have hd0 : ((k1 : Int) != (k2 : Int)) = true := by simp; omega
      have HKK := Lib.hid hkk
      clear hkk
      haveI hne : Nonempty (Ext w3) := Ext.some w3
      refine wp_region_family (Ext.v (W := w3)) (by kernel_rfl) (by kernel_rfl) ⟨⟨_, (Below.refl _ w3).drew⟩, rfl⟩ ?_
      repeat (go_big_quiet_step (first | (go_at_call_of 10 (Value.int IntKind.i64 (z1 : Int)); exact CT1.out _) | (go_at_call_of 10 (Value.int IntKind.i64 (z2 : Int)); exact CT2.out _)))
      refine wpQuiet_nil ?_
      rintro w7 ⟨⟨w8, h8⟩, rfl⟩
      go_wp2_with fail
      go_meet
      exact ⟨true, rfl, Lib.hid fun _ => .inl HKK.out, Lib.hid h8⟩
  case rest =>
    obtain ⟨ap, rfl, HAP, HBc⟩ := hcut
    have K5 := Lib.hid (K4.out.next HBc.out)
    obtain ⟨ga, n1, ca, rfl, hn1, hlt1, hC1⟩ := ColsV.some (HV1.out.next HBc.out) HB1.out.laid.pos
    obtain ⟨gb, n2, cb, rfl, hn2, hlt2, hC2⟩ := ColsV.some (HV2.out.next HBc.out) HB2.out.laid.pos
    have hn32 : n1 ≤ 32 := by rw [← hn1]; exact HB1.out.laid.few
    have hm32 : n2 ≤ 32 := by rw [← hn2]; exact HB2.out.laid.few
    have HF1 : Hid (∀ j (h : j < (colsOf l k1 t1 z1).length), (0 ≤ (colsOf l k1 t1 z1)[j].dev ∧ (colsOf l k1 t1 z1)[j].dev < devsL l s) ∧ 16 ≤ (colsOf l k1 t1 z1)[j].at_ ∧ (colsOf l k1 t1 z1)[j].at_ < s) := Lib.hid fun j h => ⟨HB1.out.dev j h, HB1.out.laid.at0 j h, HB1.out.laid.at1 j h⟩
    have HF2 : Hid (∀ i j (hi : i < (colsOf l k1 t1 z1).length) (hj : j < (colsOf l k1 t1 z1).length), i < j → ¬ ((colsOf l k1 t1 z1)[j].dev = (colsOf l k1 t1 z1)[i].dev ∧ (colsOf l k1 t1 z1)[j].at_ = (colsOf l k1 t1 z1)[i].at_)) := Lib.hid HB1.out.laid.apart
    have HF3 : Hid (ap = true → ∀ i j (hi : i < (colsOf l k1 t1 z1).length) (hj : j < (colsOf l k2 t2 z2).length), ¬ ((colsOf l k1 t1 z1)[i].dev = (colsOf l k2 t2 z2)[j].dev ∧ (colsOf l k1 t1 z1)[i].at_ = (colsOf l k2 t2 z2)[j].at_)) :=
      Lib.hid fun h i j hi hj => blk_apart HB1.out HB2.out (by obtain ⟨_, e1⟩ := HX1.out; obtain ⟨_, e2⟩ := HX2.out; rw [e1, e2]; exact HAP.out h) i j hi hj
    have HN1 := Lib.hid hn1
    have HN2 := Lib.hid hn2
    have HC1 := Lib.hid hC1
    have HC2 := Lib.hid hC2
    have HRT := Lib.hid HB1.out.right
    clear hn1 hn2 hC1 hC2 HV1 HV2 HB1 HB2 HX1 HX2 y1 y2 y3 y4 HAP K4
    generalize colsOf l k1 t1 z1 = L1 at *
    generalize colsOf l k2 t2 z2 = L2 at *
    go_wp2_with fail
    go_loopw [16] (fun i wr => ∃ j : Nat, j ≤ n1 ∧ i = .int .i64 (j : Int) ∧ Hid (Below wc.heap.size wc wr)) (fun i _ => n1 - (intOf i).toNat)
    case atStart => exact ⟨0, Nat.zero_le _, rfl, Lib.hid (Below.refl _ _)⟩
    case round =>
      obtain ⟨j, hj, rfl, HW⟩ := hrel
      by_cases hjn : j < n1
      · have hj1 : j < L1.length := by rw [HN1.out]; exact hjn
        obtain ⟨x, hx⟩ : ∃ x, L1[j] = x := ⟨_, rfl⟩
        have HXJ : Hid (∃ h : j < L1.length, L1[j] = x) := Lib.hid ⟨hj1, hx⟩
        obtain ⟨⟨f1, f2⟩, f3, f4⟩ := HF1.out j hj1
        rw [hx] at f1 f2 f3 f4
        clear hx hj1
        obtain ⟨D, hD⟩ : ∃ D, devsL l s = D := ⟨_, rfl⟩
        rw [hD] at f2
        have HD := Lib.hid hD
        clear hD
        have HCx : Hid (IsC wr ga (j * 4) x) := Lib.hid (by obtain ⟨h, e⟩ := HXJ.out; rw [← e]; exact (HC1.out j h).below hlt1 HW.out)
        have hlr1 : ga < wr.heap.size := Nat.lt_of_lt_of_le hlt1 HW.out.size
        have hlr2 : gb < wr.heap.size := Nat.lt_of_lt_of_le hlt2 HW.out.size
        have K6 := Lib.hid (K5.out.next HW.out)
        have d1 : decide (x.dev < 0) = false := decide_eq_false (by omega)
        have d2 : decide (D ≤ x.dev) = false := decide_eq_false (by omega)
        have d3 : decide (x.at_ < 16) = false := decide_eq_false (by omega)
        have d4 : decide (s ≤ x.at_) = false := decide_eq_false (by omega)
        have CD : Hid (∀ q : Ext wr, Calls Try.prog 11 #[.agg #[.slice a n c, .int .i64 s]] q.v fun e w' => e = .returned (.int .i64 D) ∧ ∃ q' : Ext wr, w' = q'.v) :=
          Lib.hid (Ext.calls fun w' hb => devs_any l s _ _ (K6.out.next hb).h.h.m D HD.out)
        have g0 := fun q : Ext wr => q.cell K6.out.h.h.c0 K6.out.h.h.lt
        have g1 := fun q : Ext wr => q.cell K6.out.h.h.c1 K6.out.h.h.lt
        have g2 := fun q : Ext wr => q.cell HCx.out.c0 hlr1
        have g3 := fun q : Ext wr => q.cell HCx.out.c1 hlr1
        haveI hne : Nonempty (Ext wr) := Ext.some wr
        go_wp2_with fail
        refine wp_region_family (Ext.v (W := wr)) (by kernel_rfl) (by kernel_rfl) ⟨⟨_, (Below.refl _ wr).drew⟩, rfl⟩ ?_
        repeat (go_big_quiet_step (first | (go_at_call 11; exact CD.out _)))
        refine wpQuiet_nil ?_
        rintro w7 ⟨⟨w8, h8⟩, rfl⟩
        clear g0 g1 g2 g3 CD d1 d2 d3 d4
        have HW8 := Lib.hid (HW.out.trans (h8.mono HW.out.size))
        go_wp2_with fail
        go_loopw [17] (fun i wr => ∃ m : Nat, m ≤ j ∧ i = .int .i64 (m : Int) ∧ Hid (Below wc.heap.size wc wr)) (fun i _ => j - (intOf i).toNat)
        case atStart => exact ⟨0, Nat.zero_le _, rfl, HW8⟩
        case round =>
          obtain ⟨m, hm, rfl, HW9⟩ := hrel
          by_cases hmj : m < j
          · obtain ⟨y, hy⟩ : ∃ y, L1[m]'(by rw [HN1.out]; omega) = y := ⟨_, rfl⟩
            have HYM : Hid (∃ h : m < L1.length, L1[m] = y) := Lib.hid ⟨_, hy⟩
            clear hy
            have hm1 : m < n1 := by omega
            obtain ⟨e0, e1, _, _⟩ : IsC wr ga (j * 4) x := by obtain ⟨h, e⟩ := HXJ.out; rw [← e]; exact (HC1.out j h).below hlt1 HW9.out
            obtain ⟨e2, e3, _, _⟩ : IsC wr ga (m * 4) y := by obtain ⟨h, e⟩ := HYM.out; rw [← e]; exact (HC1.out m h).below hlt1 HW9.out
            by_cases hdv : x.dev = y.dev
            · have hb0 : (x.dev == y.dev) = true := by simp [hdv]
              have hb1 : (x.at_ == y.at_) = false := by
                rw [beq_eq_false_iff_ne]
                intro e
                obtain ⟨h1, e1⟩ := HXJ.out
                obtain ⟨h2, e2⟩ := HYM.out
                exact HF2.out m j h2 h1 hmj (by rw [e1, e2]; exact ⟨hdv, e⟩)
              clear hdv
              go_wp2_with fail
              go_quiet (fail)
              go_wp2
              go_roundw
              case rel => exact ⟨m + 1, by omega, by go_num, Lib.hid (below_drewN HW9.out _)⟩
              case measure => simp [intOf]; omega
            · have hb0 : (x.dev == y.dev) = false := by simp [hdv]
              clear hdv
              go_wp2_with fail
              go_quiet (fail)
              go_wp2
              go_roundw
              case rel => exact ⟨m + 1, by omega, by go_num, Lib.hid (below_drewN HW9.out _)⟩
              case measure => simp [intOf]; omega
          · obtain rfl : m = j := by omega
            go_wp2_with fail
            go_loopw [18] (fun i wr => ∃ m : Nat, m ≤ n2 ∧ i = .int .i64 (m : Int) ∧ Hid (Below wc.heap.size wc wr)) (fun i _ => n2 - (intOf i).toNat)
            case atStart => exact ⟨0, Nat.zero_le _, rfl, HW9⟩
            case round =>
              obtain ⟨q, hq, rfl, HWA⟩ := hrel
              cases ap with
              | false =>
                go_wp2
                go_roundw
                case rel => exact ⟨m + 1, by omega, by go_num, HWA⟩
                case measure => simp [intOf]; omega
              | true =>
                by_cases hqn : q < n2
                · obtain ⟨y, hy⟩ : ∃ y, L2[q]'(by rw [HN2.out]; omega) = y := ⟨_, rfl⟩
                  have HYM : Hid (∃ h : q < L2.length, L2[q] = y) := Lib.hid ⟨_, hy⟩
                  clear hy
                  obtain ⟨e0, e1, _, _⟩ : IsC wr ga (m * 4) x := by obtain ⟨h, e⟩ := HXJ.out; rw [← e]; exact (HC1.out m h).below hlt1 HWA.out
                  obtain ⟨e2, e3, _, _⟩ : IsC wr gb (q * 4) y := by obtain ⟨h, e⟩ := HYM.out; rw [← e]; exact (HC2.out q h).below hlt2 HWA.out
                  by_cases hdv : x.dev = y.dev
                  · have hb0 : (x.dev == y.dev) = true := by simp [hdv]
                    have hb1 : (x.at_ == y.at_) = false := by
                      rw [beq_eq_false_iff_ne]
                      intro e
                      obtain ⟨h1, e1⟩ := HXJ.out
                      obtain ⟨h2, e2⟩ := HYM.out
                      exact HF3.out rfl m q h1 h2 (by rw [e1, e2]; exact ⟨hdv, e⟩)
                    clear hdv
                    go_wp2_with fail
                    go_quiet (fail)
                    go_wp2
                    go_roundw
                    case rel => exact ⟨q + 1, by omega, by go_num, Lib.hid (below_drewN HWA.out _)⟩
                    case measure => simp [intOf]; omega
                  · have hb0 : (x.dev == y.dev) = false := by simp [hdv]
                    clear hdv
                    go_wp2_with fail
                    go_quiet (fail)
                    go_wp2
                    go_roundw
                    case rel => exact ⟨q + 1, by omega, by go_num, Lib.hid (below_drewN HWA.out _)⟩
                    case measure => simp [intOf]; omega
                · obtain rfl : q = n2 := by omega
                  go_wp2
                  go_roundw
                  case rel => exact ⟨m + 1, by omega, by go_num, HWA⟩
                  case measure => simp [intOf]; omega
      · obtain rfl : j = n1 := by omega
        go_wp2
        go_ret
        exact ⟨rfl, next K5.out.h.h.below HW.out⟩
end Go.Proofs.Ytebejoigdofonaa
