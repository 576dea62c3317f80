/-
  The walk of polderlaw06.ColsDevs.
-/
import Derived.Test.YtebejoigdofonaaCg
import Derived.Test.YtebejoigdofonaaCq
import Derived.Test.YtebejoigdofonaaCr
namespace Go.Proofs.Ytebejoigdofonaa
open Go.RowKit

theorem new_two (U : World) (x y : Value) (ty : TypeId) (b : Nat) (hb : U.heap.size = b) : (U.alloc (.cells #[x, y] ty)).cell? ⟨b, 0, none⟩ = some x ∧ (U.alloc (.cells #[x, y] ty)).cell? ⟨b, 1, none⟩ = some y := by
  subst hb; simp

set_option maxHeartbeats 2000000 in
set_option maxRecDepth 100000 in
theorem walk_ColsDevs (v : Value) (l : List (Int × Int)) (s k t z : Int) (w : World) (h : Meas w v l s) (hk : I64 k) (ht : I64 t) (hz : (Lit.int .i64 z).wf = true) :
    Calls Try.prog 6 #[v, .agg #[.int .i64 k, .int .i64 t], .int .i64 z] w fun e w' => e = .returned (.bool true) ∧ Below w.heap.size w w' := by
  have K1 := h
  obtain ⟨a, n, c, rfl, hg⟩ := id h
  replace K1 := Lib.hid (HeldP.start k t K1)
  have HNn : Hid (l.length = n) := Lib.hid hg.1.2.1
  have HK := Lib.hid hk
  have HT := Lib.hid ht
  have HZ := Lib.hid (bounds_i64 hz)
  clear h hg hk ht hz
  go_enter Try.func6, Try.ntmps6
  go_wp2_with fail
  refine (of_any l s _ _ K1.out.h.m k t z HK.out HT.out HZ.out).mono ?_
  rintro e w1 ⟨v1, er1, rfl, hO1, b1⟩
  have K2 := Lib.hid (K1.out.next b1)
  have HO1 := Lib.hid hO1
  clear hO1 b1 K1
  go_wp2_with fail
  refine (awake6 _).mono ?_
  rintro e w3 ⟨rfl, b3⟩
  have K4 := Lib.hid (K2.out.next b3)
  have B3 := Lib.hid b3
  clear b3 K2
  rcases HO1.out with ⟨_, rfl, rfl⟩ | ⟨k, t, z, rfl, rfl, rfl, hB, rfl, hL⟩
  · go_wp2_with fail
    refine (awake6 _).mono ?_
    rintro e w4 ⟨rfl, b4⟩
    go_wp2
    go_ret
    exact ⟨rfl, next K4.out.h.below b4⟩
  have HV := Lib.hid (hL.v.next B3.out)
  obtain ⟨kk, u, hlk, hok⟩ : ∃ (kk : Int) (u : Nat), l[k]'hB.hk = (kk, (u : Int)) ∧ okG (kk, (u : Int)) = true := by
    have hok := hB.right.all k hB.hk
    have hw := okG_wide hok
    exact ⟨(l[k]'hB.hk).1, (l[k]'hB.hk).2.toNat, by rw [Int.toNat_of_nonneg (by omega)], by rw [Int.toNat_of_nonneg (by omega)]; exact hok⟩
  have hDD := hB.devd hlk
  obtain ⟨uu1, uu8⟩ : 1 ≤ (u : Int) ∧ (u : Int) ≤ 8 := okG_wide hok
  have HB := Lib.hid hB
  have HLK : Hid (∃ h : k < l.length, l[k] = (kk, (u : Int))) := Lib.hid ⟨_, hlk⟩
  have z1 := hB.z1
  have z4 := hB.z4
  have hkn : k < n := by rw [← HNn.out]; exact hB.hk
  have hn4 : n ≤ 4 := by rw [← HNn.out]; exact hB.right.few
  have HOK := Lib.hid hok
  obtain ⟨f, hf⟩ : ∃ f, aheadL l k = f := ⟨_, rfl⟩
  have hfb := hB.right.bounds k (Nat.le_of_lt hB.hk)
  rw [hf] at hfb hDD
  have f0 : 0 ≤ f := by omega
  have f1 : f ≤ 32 := by omega
  have HF : Hid (firstL l s (k : Int) = f) := Lib.hid (by unfold firstL; rw [hasL_iff.2 ⟨hB.right, k, rfl, hB.hk⟩, if_pos rfl, ← hf]; simp)
  obtain ⟨x, hx⟩ : ∃ x, takesG (kk, (u : Int)) z = x := ⟨_, rfl⟩
  have HX : Hid (∃ h : k < l.length, takesG l[k] z = x) := Lib.hid ⟨hB.hk, by rw [hlk]; exact hx⟩
  obtain ⟨L, hLd⟩ : ∃ L, colsOf l k t z = L := ⟨_, rfl⟩
  have hpos := hB.laid.pos
  have hfew := hB.laid.few
  rw [hLd] at hDD hpos hfew HV
  obtain ⟨D, hD⟩ : ∃ D, devsS (L.map C.dev) = D := ⟨_, rfl⟩
  rw [hD] at hDD
  have HDD := Lib.hid hDD
  have HD := Lib.hid hD
  have HXX := Lib.hid hx
  clear hL hB HO1 B3 HK HT HZ hlk hok hf hfb hDD hD hx hLd
  obtain ⟨g, nL, cL, rfl, hnL, hlt, hC⟩ := HV.out.some hpos
  have HN := Lib.hid hnL
  rw [hnL] at hpos hfew
  clear hC hnL
  go_wp2_with fail
  refine (devs_cols w3 _ L HV.out (by rw [HN.out]; exact hpos) (by rw [HN.out]; omega) D HD.out).mono ?_
  rintro e w5 ⟨v5, rfl, hI5, b5⟩
  have K5 := Lib.hid (K4.out.next b5)
  have c0 := K5.out.h.c0
  have c1 := K5.out.h.c1
  have p0 := K5.out.p0
  obtain ⟨da, dn, dc, rfl, hdn, hdc, hdv⟩ := hI5
  have HDN := Lib.hid hdn
  have HDV := Lib.hid hdv
  have dnp : 0 < dn := by rw [← hdn]; exact HDD.out.pos
  have dn32 : dn ≤ 32 := by rw [← hdn]; exact HDD.out.few
  clear hdn hdv b5
  go_wp2_with fail
  refine (first_any l s _ _ K5.out.h.m (k : Int) ⟨by omega, by omega⟩ f HF.out).mono ?_
  rintro e w6 ⟨rfl, b6⟩
  have K6 := Lib.hid (K5.out.next b6)
  obtain ⟨gd, hgd, hCD⟩ : ∃ gd, da = some ⟨gd, 0, none⟩ ∧ ∀ j (h : j < D.length), gd < w6.heap.size ∧ w6.cell? ⟨gd, j, none⟩ = some (.int .i64 D[j]) := by
    obtain ⟨gd, e, _, _⟩ := HDV.out 0 (by rw [HDN.out]; exact dnp)
    refine ⟨gd, e, fun j h => ?_⟩
    obtain ⟨g', e', h1, h2⟩ := HDV.out j h
    rw [e] at e'
    cases e'
    exact ⟨Nat.lt_of_lt_of_le h1 b6.size, by rw [b6.cell (p := ⟨gd, j, none⟩) h1]; exact h2⟩
  subst hgd
  have HCD := Lib.hid hCD
  clear hCD HDV b6 c0 c1 p0
  have c0 := K6.out.h.c0
  have p0 := K6.out.p0
  obtain ⟨gg, o, rfl, hlg, q0, q1⟩ := K6.out.h.at_ HLK.out.1 HLK.out.2
  dsimp only at q0 q1
  go_wp2_with fail
  have hW : Below w6.heap.size w6 (w6.alloc (.cells #[.int .i64 kk, .int .i64 (u : Int)] 40)) := boxed _ _
  have hx0 := (new_two w6 (.int .i64 kk) (.int .i64 (u : Int)) 40 w6.heap.size rfl).1
  have hx1 := (new_two w6 (.int .i64 kk) (.int .i64 (u : Int)) 40 w6.heap.size rfl).2
  have hxs : w6.heap.size < (w6.alloc (.cells #[.int .i64 kk, .int .i64 (u : Int)] 40)).heap.size := by simp
  have HW := Lib.hid hW
  generalize w6.alloc (.cells #[.int .i64 kk, .int .i64 (u : Int)] 40) = W7 at *
  generalize hbx : w6.heap.size = bx at *
  have HBX := Lib.hid hbx
  clear hbx
  clear hW c0 p0 q0 q1 hlg
  have HX0 := Lib.hid hx0
  have HX1 := Lib.hid hx1
  clear hx0 hx1
  go_loopw [12] (fun i12 wr => ∃ i : Nat, i ≤ dn ∧ i12 = .int .i64 (i : Int) ∧ Hid (Below W7.heap.size W7 wr)) (fun i _ => dn - (intOf i).toNat)
  case atStart => exact ⟨0, Nat.zero_le _, rfl, Lib.hid (Below.refl _ _)⟩
  case round =>
    obtain ⟨i, hi, rfl, HWr⟩ := hrel
    have x0 := (HWr.out.cell (p := ⟨bx, 0, none⟩) hxs).trans HX0.out
    have x1 := (HWr.out.cell (p := ⟨bx, 1, none⟩) hxs).trans HX1.out
    by_cases hin : i < dn
    · have hil : i < D.length := by rw [HDN.out]; exact hin
      obtain ⟨d, hd⟩ : ∃ d, D[i] = d := ⟨_, rfl⟩
      obtain ⟨hd0, hd1⟩ := HDD.out.in_ i hil
      rw [hd] at hd0 hd1
      have HDi : Hid (∃ h : i < D.length, D[i] = d) := Lib.hid ⟨hil, hd⟩
      have HCi : Hid (∀ j (h : j < D.length), wr.cell? ⟨gd, j, none⟩ = some (.int .i64 D[j])) := Lib.hid fun j h => by
        obtain ⟨h1, h2⟩ := HCD.out j h
        rw [(HW.out.trans (HWr.out.mono (Nat.le_of_lt hxs))).cell (p := ⟨gd, j, none⟩) h1]
        exact h2
      have e0 := HCi.out i hil
      rw [hd] at e0
      clear hd hil
      have g1 : decide (d < f) = false := decide_eq_false (by omega)
      have g2 : decide (f + (u : Int) ≤ d) = false := decide_eq_false (by omega)
      by_cases hi0 : i = 0
      · subst hi0
        go_wp2_with fail
        go_quiet (fail)
        go_wp2
        go_roundw
        case rel => exact ⟨1, by omega, by go_num, Lib.hid (below_drewN HWr.out _)⟩
        case measure => simp [intOf]; omega
      · obtain ⟨p, hp⟩ : ∃ p : Nat, (i : Int) - 1 = (p : Int) := ⟨i - 1, by omega⟩
        have hpi : p < dn := by omega
        have HPI : Hid (i = p + 1) := Lib.hid (by omega)
        obtain ⟨d', hd'⟩ : ∃ d', D[p]'(by rw [HDN.out]; exact hpi) = d' := ⟨_, rfl⟩
        have e1 := HCi.out p (by rw [HDN.out]; exact hpi)
        rw [hd'] at e1
        have hlt' : d' < d := by
          obtain ⟨h, e⟩ := HDi.out
          have h1 := HPI.out
          subst h1
          rw [← e, ← hd']
          exact HDD.out.up p h
        clear hd'
        have g3 : decide ((0 : Int) < (i : Int)) = true := decide_eq_true (by omega)
        have g5 : decide (0 < i) = true := decide_eq_true (by omega)
        have hipos : 0 < i := by omega
        have g4 : decide (d ≤ d') = false := decide_eq_false (by omega)
        go_wp2_with fail
        go_quiet (fail)
        go_wp2
        go_roundw
        case rel => exact ⟨i + 1, by omega, by go_num, Lib.hid (below_drewN HWr.out _)⟩
        case measure => simp [intOf]; omega
    · obtain rfl : i = dn := by omega
      have HWw := Lib.hid (K6.out.next (by rw [HBX.out]; exact HW.out.trans (HWr.out.mono (Nat.le_of_lt hxs))))
      rcases okG_cases HOK.out with ⟨rfl, vv1, vv8⟩ | ⟨rfl, vv1, vv8⟩
      · obtain ⟨hl1, hl2⟩ := HDD.out.mir rfl
        rw [HDN.out] at hl1
        rw [HN.out] at hl2
        have hb1 : ((i : Int) == (u : Int)) = true := by simp [hl1]
        have hz2 : (nL : Int) = (z : Int) * u := by rw [hl2, Int.natCast_mul]
        have hm0 : (0 : Int) ≤ (z : Int) * u := by omega
        have hm1 : (z : Int) * u ≤ 32 := by omega
        have hb2 : ((nL : Int) == (z : Int) * u) = true := by simp [hz2]
        have HZ2 := Lib.hid hz2
        have HL1 := Lib.hid hl1
        clear hl1 hl2 hz2
        go_wp2
        go_ret
        exact ⟨rfl, HWw.out.h.below⟩
      · obtain ⟨hl1, hl2, hl3⟩ := HDD.out.par rfl
        rw [HDN.out, HN.out] at hl1
        rw [HN.out] at hl2 hl3
        rw [HXX.out] at hl3
        have HL1 := Lib.hid hl1
        have c0 := HWw.out.h.c0
        have c1 := HWw.out.h.c1
        have p0 := HWw.out.p0
        have hb2 : decide ((z : Int) < (nL : Int)) = true := decide_eq_true (by omega)
        have hb3 : decide ((nL : Int) ≤ x) = true := decide_eq_true hl3
        have hmin : (i : Int) = min (u : Int) (nL : Int) := by
          rw [hl1]
          split <;> omega
        have hb1 : ((i : Int) == min (u : Int) (nL : Int)) = true := by simp [hmin]
        have HMIN := Lib.hid hmin
        clear hl1 hmin
        go_wp2_with fail
        refine (takes_some l s _ _ HWw.out.h.m HB.out.right k HB.out.hk z (by omega) (by omega) x HX.out.2).mono ?_
        rintro e w9 ⟨rfl, b9⟩
        go_wp2
        go_ret
        exact ⟨rfl, next HWw.out.h.below b9⟩
end Go.Proofs.Ytebejoigdofonaa
