/-
  The walk of polderlaw11.SpaceOrder.
-/
import Derived.Test.YtoiiaacjpobaeaaSo
import Derived.Deep.DeepCutAuto
import Derived.Deep.CutBlock
namespace Go.Proofs.Ytoiiaacjpobaeaa
set_option maxRecDepth 100000
open Go.RowKit

/-- The first loop: a map, and what was taken. -/
def TookRel (B : Nat) (b : Nat) (n : Nat) (W : World) (v u : Value) (wr : World) : Prop :=
  ∃ (t : Nat) (l : List (Int × Int)) (T : List ActV), t ≤ n ∧ u = .int .i64 (t : Int) ∧ Hid (OwnA B wr v T) ∧ Hid (T.length ≤ t) ∧ Hid (TkR 60 l T) ∧ Hid (MapIn B noX wr b 60 l) ∧ Hid (Below B W wr)
/-- The second loop: another map, taken of in another order. -/
def RotRel (B : Nat) (b : Nat) (T : List ActV) (r : Nat) (n : Nat) (W : World) (u : Value) (wr : World) : Prop :=
  ∃ (s : Nat) (l : List (Int × Int)), s ≤ n ∧ u = .int .i64 (s : Int) ∧ Hid (RotR 60 l T r s) ∧ Hid (MapIn B noX wr b 60 l) ∧ Hid (Below B W wr)

set_option maxRecDepth 100000 in
set_option maxHeartbeats 4000000 in
theorem walk_SpaceOrder (a0 : Option Addr) (len0 cap0 : Nat) (a1 : Int) (w : World) (hr0 : ∃ f, Acts w a0 len0 f) (w1 : (Lit.int .u8 a1).wf = true) :
    Calls Try.prog 7 #[.slice a0 len0 cap0, .int .u8 a1] w fun e w' => e = .returned (.bool true) ∧ Below w.heap.size w w' := by
  obtain ⟨f0, hA0⟩ := hr0
  obtain ⟨x0, x1⟩ := bounds_u8 w1
  obtain ⟨tu, htu⟩ : ∃ tu : Nat, a1 = (tu : Int) := ⟨a1.toNat, by omega⟩
  have HA0 := Lib.hid hA0
  have hm0 := hA0.1
  unfold maxLen at hm0
  have HTU := Lib.hid htu
  clear hA0 w1 htu
  by_cases h0 : 100 < len0
  · have d0 : decide ((100 : Int) < (len0 : Int)) = true := by simp; omega
    go_enter Try.func7, Try.ntmps7
    go_wp2_with fail
    refine (awake_any _).mono ?_
    rintro e w1 ⟨rfl, b1⟩
    go_wp2_with fail
    refine (awake_any _).mono ?_
    rintro e w2 ⟨rfl, b2⟩
    go_wp2
    go_ret
    exact ⟨rfl, next b1 b2⟩
  have d0 : decide ((100 : Int) < (len0 : Int)) = false := by simp; omega
  by_cases h00 : len0 = 0
  · have e0 : ((len0 : Int) == (0 : Int)) = true := by simp; omega
    clear h00
    go_enter Try.func7, Try.ntmps7
    go_wp2_with fail
    refine (awake_any _).mono ?_
    rintro e w1 ⟨rfl, b1⟩
    go_wp2_with fail
    refine (awake_any _).mono ?_
    rintro e w2 ⟨rfl, b2⟩
    go_wp2
    go_ret
    exact ⟨rfl, next b1 b2⟩
  have e0 : ((len0 : Int) == (0 : Int)) = false := by simp; omega
  go_enter Try.func7, Try.ntmps7
  go_wp2_with fail
  refine (awake_any _).mono ?_
  rintro e w1 ⟨rfl, b1⟩
  go_wp2_with fail
  refine (new_ok 60 w1 (by omega) (by omega)).mono ?_
  rintro e w2 ⟨b, rfl, h2, b2⟩
  have hrel0 : TookRel w.heap.size b len0 w (.slice none 0 0) (.int .i64 0) w2 := ⟨0, [], [], Nat.zero_le _, rfl, Lib.hid (OwnA.nil _ _), Lib.hid (Nat.le_refl _), Lib.hid (TkR.nil 60), Lib.hid (h2.lower b1.size), Lib.hid (next b1 b2)⟩
  clear h2 b1 b2
  go_wp2_with fail
  go_loopw [7, 8] (fun v u wr => TookRel w.heap.size b len0 w v u wr) (fun _ u _ => len0 - (intOf u).toNat)
  case atStart => exact hrel0
  case round =>
    obtain ⟨t, l, T, ht, rfl, HO, HTL, HT, HM, HB⟩ := hrel
    clear hrel0
    by_cases hlt : t < len0
    · obtain ⟨g, o, rfl, hg, hx⟩ := HA0.out.at_ HB.out hlt
      generalize f0 t = x at hx
      have c1 : wr.drew.cell? ⟨g, o + t * 3 + 1, none⟩ = some (.int .i64 x.a) := hx.c1
      have c2 : wr.drew.cell? ⟨g, o + t * 3 + 2, none⟩ = some (.int .i64 x.n) := hx.c2
      obtain ⟨r, l', hR, hT⟩ := take_any HT.out.wf (by omega) x.a x.n hx.n0
      have HMo := Lib.hid ((HM.out.apartA HO.out).below (Below.refl _ wr).drew)
      have HTk := Lib.hid (hT _ _ _ _ HMo.out)
      have HR := Lib.hid hR
      have HX := Lib.hid hx
      clear hx hR hT
      by_cases hr : r = 0
      · have dr : (r == 0) = true := by simpa using hr
        have HRR : Hid (FreeR 60 l x.a x.n ∧ Taken 60 l x.a x.n l') := Lib.hid (by
          rcases HR.out with ⟨e, _⟩ | ⟨e, _⟩ | ⟨_, h⟩
          · omega
          · omega
          · exact h)
        clear hr
        go_wp2_with fail
        go_region_held3 (fun W => W.cell? ⟨g, o + t * 3 + 1, none⟩ = some (.int .i64 x.a) ∧ W.cell? ⟨g, o + t * 3 + 2, none⟩ = some (.int .i64 x.n))
          (first | exact ⟨c1, c2⟩ | exact ⟨e1, e2⟩)
          (first | (go_at_call 11; refine HTk.out.mono ?_; rintro e w3 ⟨rfl, h3, k3⟩; have e1 := (k3.low.cell (p := ⟨g, o + t * 3 + 1, none⟩) hg).trans c1; have e2 := (k3.low.cell (p := ⟨g, o + t * 3 + 2, none⟩) hg).trans c2; have H3 := Lib.hid h3; have O3 := Lib.hid ((HO.out.below (Below.refl _ wr).drew).keep k3); have K3 := Lib.hid ((HB.out.trans (Below.refl _ wr).drew).trans k3.low); have E0 := Lib.hid ((k3.low.cell (p := ⟨g, o + t * 3, none⟩) hg).trans (show wr.drew.cell? ⟨g, o + t * 3, none⟩ = some (.int .u8 x.d) from HX.out.c0)); clear h3 k3))
        have e0' := E0.out
        have HTL2 : Hid (T.length ≤ 100000) := Lib.hid (by have := HTL.out; omega)
        go_wp2_with (first
          | (at_builtin; refine wpList_append_act _ rfl _ _ rfl w.heap.size _ T x _ 1 rfl rfl (O3.out.below (boxed _ _)) (by simp) (by simp) (by simp) (by have := K3.out.size; simp; omega) HTL2.out ?_; intro v4 w4 hO4 hg4; have O4 := Lib.hid hO4; have H4 := Lib.hid ((H3.out.below (boxed _ _)).grown hg4); have B4 := Lib.hid (Below.grown (K3.out.trans ((boxed w3 _).mono K3.out.size)) hg4 (by have := K3.out.size; simp; omega) fun k hk => (World.ownsRow.lt O3.out k hk).1); clear hO4 hg4))
        go_roundw
        case rel => exact ⟨t + 1, l', T ++ [x], by omega, by go_num, O4, Lib.hid (by have := HTL.out; simp; omega), Lib.hid (HT.out.snoc HRR.out.1 HRR.out.2), H4, B4⟩
        case measure => simp [intOf]; omega
      · have dr : (r == 0) = false := by simpa using hr
        have hl : l' = l := by
          rcases HR.out with ⟨_, _, e⟩ | ⟨_, _, _, e⟩ | ⟨e, _⟩
          · exact e
          · exact e
          · exact absurd e hr
        subst hl
        clear hr
        go_wp2_with fail
        go_region_held3 (fun W => W.cell? ⟨g, o + t * 3 + 1, none⟩ = some (.int .i64 x.a) ∧ W.cell? ⟨g, o + t * 3 + 2, none⟩ = some (.int .i64 x.n))
          (first | exact ⟨c1, c2⟩ | exact ⟨e1, e2⟩)
          (first | (go_at_call 11; refine HTk.out.mono ?_; rintro e w3 ⟨rfl, h3, k3⟩; have e1 := (k3.low.cell (p := ⟨g, o + t * 3 + 1, none⟩) hg).trans c1; have e2 := (k3.low.cell (p := ⟨g, o + t * 3 + 2, none⟩) hg).trans c2; have H3 := Lib.hid h3.free; have O3 := Lib.hid ((HO.out.below (Below.refl _ wr).drew).keep k3); have K3 := Lib.hid ((HB.out.trans (Below.refl _ wr).drew).trans k3.low); clear h3 k3))
        go_wp2
        go_roundw
        case rel => exact ⟨t + 1, l', T, by omega, by go_num, O3, Lib.hid (by have := HTL.out; omega), HT, H3, K3⟩
        case measure => simp [intOf]; omega
    · obtain rfl : t = len0 := by omega
      obtain ⟨ta, tc, hv⟩ := HO.out.isSl
      obtain ⟨N, hN⟩ : ∃ N, T.length = N := ⟨_, rfl⟩
      have HN := Lib.hid hN
      rw [hN] at hv
      subst hv
      have hN1 : N ≤ 100 := by have := HTL.out; omega
      clear hN
      generalize wr = wA at *
      go_wp2_with fail
      refine (new_ok 60 wA (by omega) (by omega)).mono ?_
      rintro e w3 ⟨b2, rfl, h3, b3⟩
      have hrel1 : RotRel wA.heap.size b2 T tu N wA (.int .i64 0) w3 := ⟨0, [], Nat.zero_le _, rfl, Lib.hid (RotR.nil 60 T tu), Lib.hid h3, Lib.hid b3⟩
      clear h3 b3
      go_wp2_with fail
      go_loopw [11] (fun u wq => RotRel wA.heap.size b2 T tu N wA u wq) (fun u _ => N - (intOf u).toNat)
      case atStart => exact hrel1
      case round =>
        obtain ⟨s, l2, hs, rfl, HR2, HM2, HB2⟩ := hrel
        clear hrel1
        by_cases hsN : s < N
        · obtain ⟨q, hqe⟩ : ∃ q, (s + tu) % T.length = q := ⟨_, rfl⟩
          have hsT : s < T.length := by rw [HN.out]; exact hsN
          have hqT : q < T.length := by rw [← hqe]; exact Nat.mod_lt _ (by omega)
          have hqN : q < N := by have := HN.out; omega
          have hfree : FreeR 60 l2 T[q].a T[q].n := by subst hqe; exact HR2.out.free HT.out hsT hqT
          have hq : ((s : Int) + a1) % (N : Int) = (q : Int) := by rw [HTU.out, ← HN.out, ← hqe]; simp
          have hN0 : ¬ (N : Int) = 0 := by omega
          have hN0' : ((N : Int) == 0) = false := by simpa using hN0
          obtain ⟨o0, o1, o2⟩ := HT.out.ok _ (List.getElem_mem hqT)
          obtain ⟨r, l', hR, hTk⟩ := take_any HR2.out.wf (by omega) T[q].a T[q].n ⟨by omega, by omega⟩
          obtain ⟨rfl, hk⟩ := hR.free hfree
          have HST : Hid (RotR 60 l' T tu (s + 1)) := Lib.hid (by subst hqe; exact HR2.out.step hqT hk)
          obtain ⟨gT, c', e, hgl, hcells⟩ := HO.out.at_ (by omega)
          simp only [Value.slice.injEq] at e
          obtain ⟨rfl, e2, e3⟩ := e
          clear e2 e3
          obtain ⟨c0, c1, c2⟩ := hcells q hqT
          have k0 := (HB2.out.cell (p := ⟨gT, q * 3, none⟩) hgl).trans c0
          have k1 := (HB2.out.cell (p := ⟨gT, q * 3 + 1, none⟩) hgl).trans c1
          have k2 := (HB2.out.cell (p := ⟨gT, q * 3 + 2, none⟩) hgl).trans c2
          have HTk := Lib.hid hTk
          generalize T[q].d = yd at *
          generalize T[q].a = ya at *
          generalize T[q].n = yn at *
          clear hqe hsT hqT hfree hR hTk hk hcells c0 c1 c2
          go_wp2_with fail
          refine (HTk.out _ _ _ _ (HM2.out.below (boxed _ _))).mono ?_
          rintro e w5 ⟨rfl, h5, k5⟩
          have H5 := Lib.hid h5
          have B5 := Lib.hid ((HB2.out.trans ((boxed wr _).mono HB2.out.size)).trans k5.low)
          clear h5 k5
          go_wp2
          go_roundw
          case rel => exact ⟨s + 1, l', by omega, by go_num, HST, H5, B5⟩
          case measure => simp [intOf]; omega
        · obtain rfl : s = N := by omega
          have hall : l = l2 := by
            have h := HR2.out
            rw [← HN.out] at h
            exact h.all HT.out
          subst hall
          have HW := Lib.hid HT.out.wf
          have hll := HW.out.len (by omega)
          have HMa := Lib.hid (HM.out.below HB2.out)
          generalize wr = wC at *
          go_wp2_with fail
          refine (runs_ok HMa.out (by omega)).mono ?_
          rintro e w5 ⟨ra, n, rc, rfl, hl, hO5, b5⟩
          have HL := Lib.hid hl
          have R5 := Lib.hid hO5.r
          have M5 := Lib.hid (HMa.out.below b5)
          have M5' := Lib.hid (HM2.out.below b5)
          have B5 := Lib.hid (next HB2.out b5)
          have hn6 : n ≤ 65536 := by omega
          clear hl hO5 b5
          go_wp2_with fail
          refine (runs_ok M5'.out (by omega)).mono ?_
          rintro e w6 ⟨sa, n', sc, rfl, hl, hO6, b6⟩
          obtain rfl : n' = n := by have := HL.out; omega
          have R6 := Lib.hid hO6.r
          have M6 := Lib.hid (M5.out.below b6)
          have M6' := Lib.hid (M5'.out.below b6)
          have B6 := Lib.hid (next B5.out b6)
          have hrel2 : SameRel w6.heap.size l ra sa n' rc sc w6 (.int .i64 0) w6 := ⟨0, Nat.zero_le _, rfl, Lib.hid (R5.out.below b6), R6, Lib.hid (Below.refl _ _)⟩
          have hnn : ((n' : Int) == (n' : Int)) = true := by simp
          clear hl hO6 b6
          go_wp2_with fail
          go_loopw [15] (fun u wq => SameRel w6.heap.size l ra sa n' rc sc w6 u wq) (fun u _ => n' - (intOf u).toNat)
          case atStart => exact hrel2
          case round =>
            obtain ⟨k, hk, rfl, HR1, HR3, HB7⟩ := hrel
            clear hrel2
            by_cases hkn : k < n'
            · have hkl : k < l.length := by rw [HL.out]; exact hkn
              rcases HR1.out with ⟨e, _⟩ | ⟨g1, n1, c1, e, _, _, _, hRow1⟩
              · cases e; omega
              cases e
              rcases HR3.out with ⟨e, _⟩ | ⟨g2, n2, c2, e, _, _, _, hRow2⟩
              · cases e; omega
              cases e
              obtain ⟨r0, r1⟩ := hRow1.is k hkl
              obtain ⟨s0, s1⟩ := hRow2.is k hkl
              generalize l[k].1 = rx at *
              generalize l[k].2 = ry at *
              clear hRow1 hRow2 hkl
              go_wp2_with fail
              go_quiet (fail)
              have HB8 := Lib.hid (below_drewN HB7.out nq)
              have HR8 := Lib.hid (HR1.out.below (below_drewN (Below.refl _ wr) nq))
              have HR9 := Lib.hid (HR3.out.below (below_drewN (Below.refl _ wr) nq))
              go_wp2_with fail
              go_roundw
              case rel => exact ⟨k + 1, by omega, by go_num, HR8, HR9, HB8⟩
              case measure => simp [intOf]; omega
            · obtain rfl : k = n' := by omega
              have HLa := Lib.hid (left_ok (M6.out.below HB7.out) HW.out (by omega))
              obtain ⟨y, hy⟩ : ∃ y, 60 - sumR l = y := ⟨_, rfl⟩
              have HLb := Lib.hid (fun W (h : Below wr.heap.size wr W) => left_ok ((M6'.out.below HB7.out).below h) HW.out (by omega))
              rw [hy] at HLa HLb
              have hyy : (y == y) = true := by simp
              clear hy
              go_wp2_with fail
              refine HLa.out.mono ?_
              rintro e w8 ⟨rfl, b8⟩
              have B8 := Lib.hid b8
              clear b8
              go_wp2_with fail
              refine (HLb.out _ B8.out).mono ?_
              rintro e w9 ⟨rfl, b9⟩
              have B9 := Lib.hid (next B8.out b9)
              clear b9
              go_wp2
              go_ret
              exact ⟨rfl, next HB.out (next B6.out (next HB7.out B9.out))⟩
end Go.Proofs.Ytoiiaacjpobaeaa
