/-
  The walk of polderlaw06.ColsData.
-/
import Derived.Test.YtebejoigdofonaaCg
import Derived.Test.YtebejoigdofonaaCl
namespace Go.Proofs.Ytebejoigdofonaa
open Go.RowKit

set_option maxHeartbeats 2000000 in
set_option maxRecDepth 100000 in
theorem walk_ColsData (v : Value) (l : List (Int × Int)) (s k t z : Int) (w : World) (h : Meas w v l s) (hk : I64 k) (ht : I64 t) (hz : (Lit.int .i64 z).wf = true) :
    Calls Try.prog 7 #[v, .agg #[.int .i64 k, .int .i64 t], .int .i64 z] w fun e w' => e = .returned (.bool true) ∧ Below w.heap.size w w' := by
  have K1 := h
  obtain ⟨a, n, c, rfl, hg⟩ := id h
  replace K1 := Lib.hid (HeldP.start k t K1)
  have HK := Lib.hid hk
  have HT := Lib.hid ht
  have HZ := Lib.hid (bounds_i64 hz)
  clear h hg hk ht hz
  go_enter Try.func7, Try.ntmps7
  go_wp2_with fail
  refine (of_any l s _ _ K1.out.h.m k t z HK.out HT.out HZ.out).mono ?_
  rintro e w1 ⟨v1, er1, rfl, hO1, b1⟩
  have K2 := Lib.hid (K1.out.next b1)
  have HO1 := Lib.hid hO1
  clear hO1 b1 K1
  go_wp2_with fail
  refine (awake6 _).mono ?_
  rintro e w3 ⟨rfl, b3⟩
  have K4 := Lib.hid (K2.out.next b3)
  have B3 := Lib.hid b3
  clear b3 K2
  rcases HO1.out with ⟨_, rfl, rfl⟩ | ⟨k, t, z, rfl, rfl, rfl, hB, rfl, hL⟩
  · go_wp2_with fail
    refine (awake6 _).mono ?_
    rintro e w4 ⟨rfl, b4⟩
    go_wp2
    go_ret
    exact ⟨rfl, next K4.out.h.below b4⟩
  obtain ⟨g, nL, cL, rfl, hnL, hlt, hC⟩ := (hL.v.next B3.out).some hB.laid.pos
  have hn32 : nL ≤ 32 := by rw [← hnL]; exact hB.laid.few
  have HB := Lib.hid hB
  have HN := Lib.hid hnL
  have HC := Lib.hid hC
  have z1 := hB.z1
  have z4 := hB.z4
  have hM32 : Hid ((datL (colsOf l k t z)).length ≤ 32) := Lib.hid (Nat.le_trans (List.length_filter_le _ _) hB.laid.few)
  clear hB hL hnL hC HO1 B3 HK HT HZ
  go_wp2_with fail
  go_loopw [9, 10] (fun i9 i10 wr => ∃ i : Nat, i ≤ z ∧ i10 = .int .i64 (i : Int) ∧ i9 = .int .i64 ((cnt (datL (colsOf l k t z)) z (datL (colsOf l k t z)).length i : Nat) : Int) ∧ Hid (Below w3.heap.size w3 wr)) (fun _ i _ => z - (intOf i).toNat)
  case atStart => exact ⟨0, Nat.zero_le _, rfl, rfl, Lib.hid (Below.refl _ _)⟩
  case round =>
    obtain ⟨i, hi, rfl, rfl, HW⟩ := hrel
    by_cases hiz : i < z
    · have K5 := Lib.hid (K4.out.next HW.out)
      have c0 := K5.out.h.c0
      have c1 := K5.out.h.c1
      have p0 := K5.out.p0
      have p1 := K5.out.p1
      obtain ⟨D, hD⟩ : ∃ D, dataOf l k t z (i : Int) = D := ⟨_, rfl⟩
      have HD := Lib.hid hD
      have hDp : 0 < D.length := by rw [← hD]; exact held_some _ _ _ hiz HB.out.datas
      have hcs : cnt (datL (colsOf l k t z)) z (datL (colsOf l k t z)).length (i + 1) = cnt (datL (colsOf l k t z)) z (datL (colsOf l k t z)).length i + D.length := by rw [← hD]; rfl
      have hcm : cnt (datL (colsOf l k t z)) z (datL (colsOf l k t z)).length (i + 1) ≤ 32 := by
        have h1 := cnt_mono (datL (colsOf l k t z)) z (datL (colsOf l k t z)).length (i + 1) z hiz
        rw [cnt_all _ _ (by omega) _ (Nat.le_refl _)] at h1
        exact Nat.le_trans h1 hM32.out
      have HDM : Hid (∀ q (h : q < D.length), ∃ j, ∃ hj : j < (colsOf l k t z).length, (colsOf l k t z)[j] = D[q] ∧ D[q].par = false) := Lib.hid fun q h => by
        have h1 : D[q] ∈ dataOf l k t z (i : Int) := by rw [HD.out]; exact List.getElem_mem h
        have h2 := heldTo_mem h1
        obtain ⟨h3, h4⟩ := List.mem_filter.1 h2
        obtain ⟨j, hj, e⟩ := List.getElem_of_mem h3
        exact ⟨j, hj, e, by simpa using h4⟩
      generalize cnt (datL (colsOf l k t z)) z (datL (colsOf l k t z)).length i = y at *
      have HCS := Lib.hid hcs
      rw [hcs] at hcm
      clear hcs hD
      obtain ⟨hmm, hdd⟩ : ∃ m, D.length = m := ⟨_, rfl⟩
      have HDL := Lib.hid hdd
      rw [hdd] at hDp hcm
      have hdec : Hid (decide (0 < D.length) = true) := Lib.hid (by rw [hdd]; exact decide_eq_true hDp)
      clear hdd
      go_wp2_with fail
      refine (data_ok l s _ _ K5.out.h.m k t z HB.out (i : Int) ⟨by omega, by omega⟩ D HD.out).mono ?_
      rintro e w5 ⟨v5, rfl, ho5, b5⟩
      rw [hdec.out]
      obtain ⟨g5, n5, c5, rfl, hn5, hlt5, hC5⟩ := ho5.v.some (by rw [HDL.out]; exact hDp)
      obtain rfl : n5 = hmm := by rw [← hn5]; exact HDL.out
      have HW5 := Lib.hid (next HW.out b5)
      have HC5 := Lib.hid hC5
      clear hC5 hn5 ho5 b5 c0 c1 p0 p1
      go_wp2_with fail
      go_loopw [9, 13] (fun i9 i13 wr => ∃ q N : Nat, q ≤ n5 ∧ N ≤ 32 ∧ i13 = .int .i64 (q : Int) ∧ i9 = .int .i64 (N : Int) ∧ Hid (N = y + q) ∧ Hid (Below w5.heap.size w5 wr)) (fun _ i _ => n5 - (intOf i).toNat)
      case atStart => exact ⟨0, y, Nat.zero_le _, by omega, rfl, rfl, Lib.hid rfl, Lib.hid (Below.refl _ _)⟩
      case round =>
        obtain ⟨q, N, hq, hN32, rfl, rfl, HNq, HW6⟩ := hrel
        by_cases hqn : q < n5
        · obtain ⟨x, hx⟩ : ∃ x, D[q]'(by rw [HDL.out]; exact hqn) = x := ⟨_, rfl⟩
          have HXq : Hid (∃ h : q < D.length, D[q] = x) := Lib.hid ⟨_, hx⟩
          clear hx
          have HXL : Hid ((∃ j, ∃ hj : j < (colsOf l k t z).length, (colsOf l k t z)[j] = x) ∧ x.par = false) := Lib.hid (by
            obtain ⟨h, e⟩ := HXq.out
            obtain ⟨j, hj, h1, h2⟩ := HDM.out q h
            rw [e] at h1 h2
            exact ⟨⟨j, hj, h1⟩, h2⟩)
          go_wp2_with fail
          go_loopw [14, 15] (fun i14 i15 wr => ∃ (j : Nat) (fnd : Bool), j ≤ nL ∧ i15 = .int .i64 (j : Int) ∧ i14 = .bool fnd ∧ Hid (∀ p (h : p < (colsOf l k t z).length), p < j → (colsOf l k t z)[p] = x → fnd = true) ∧ Hid (Below w5.heap.size w5 wr)) (fun _ i _ => nL - (intOf i).toNat)
          case atStart => exact ⟨0, false, Nat.zero_le _, rfl, rfl, Lib.hid fun p _ h => absurd h (Nat.not_lt_zero _), HW6⟩
          case round =>
            obtain ⟨j, fnd, hj, rfl, rfl, HF, HW7⟩ := hrel
            by_cases hjn : j < nL
            · cases fnd with
              | true =>
                go_wp2_with fail
                go_quiet (fail)
                go_wp2
                go_roundw
                case rel => exact ⟨j + 1, true, by omega, by go_num, rfl, Lib.hid fun _ _ _ _ => rfl, Lib.hid (below_drewN HW7.out _)⟩
                case measure => simp [intOf]; omega
              | false =>
                obtain ⟨xl, hxl⟩ : ∃ xl, (colsOf l k t z)[j]'(by rw [HN.out]; exact hjn) = xl := ⟨_, rfl⟩
                have HXl : Hid (∃ h : j < (colsOf l k t z).length, (colsOf l k t z)[j] = xl) := Lib.hid ⟨_, hxl⟩
                clear hxl
                obtain ⟨e0, e1, e2, e3⟩ : IsC wr g (j * 4) xl := by obtain ⟨h, e⟩ := HXl.out; rw [← e]; exact (HC.out j h).below hlt (next HW5.out HW7.out)
                obtain ⟨d0, d1, d2, d3⟩ : IsC wr g5 (q * 4) x := by obtain ⟨h, e⟩ := HXq.out; rw [← e]; exact (HC5.out q h).below hlt5 HW7.out
                rcases C.cmp xl x with hxy | ⟨hxy, h0 | ⟨h0, h1⟩ | ⟨h0, h1, h2⟩ | ⟨h0, h1, h2, h3⟩⟩
                · subst hxy
                  have hpx := HXL.out.2
                  rw [hpx] at e2 d2
                  have HPX := Lib.hid hpx
                  clear hpx
                  go_wp2_with fail
                  go_quiet (fail)
                  go_wp2
                  go_roundw
                  case rel => exact ⟨j + 1, true, by omega, by go_num, rfl, Lib.hid fun _ _ _ _ => rfl, Lib.hid (below_drewN HW7.out _)⟩
                  case measure => simp [intOf]; omega
                all_goals
                  have HNE := Lib.hid hxy
                  clear hxy
                  go_wp2_with fail
                  go_quiet (fail)
                  go_wp2
                  go_roundw
                  case rel =>
                    refine ⟨j + 1, false, by omega, by go_num, rfl, Lib.hid fun p h hp e => ?_, Lib.hid (below_drewN HW7.out _)⟩
                    by_cases ep : p = j
                    · subst ep
                      obtain ⟨_, e'⟩ := HXl.out
                      exact absurd (e'.symm.trans e) HNE.out
                    · exact HF.out p h (by omega) e
                  case measure => simp [intOf]; omega
            · obtain rfl : j = nL := by omega
              have hft : true = fnd := by
                obtain ⟨⟨p, hp, e⟩, _⟩ := HXL.out
                exact (HF.out p hp (by rw [← HN.out]; exact hp) e).symm
              subst hft
              go_wp2
              go_roundw
              case rel => exact ⟨q + 1, N + 1, by omega, by have := HNq.out; omega, by go_num, by go_num, Lib.hid (by have := HNq.out; omega), HW7⟩
              case measure => simp [intOf]; omega
        · obtain rfl : q = n5 := by omega
          go_wp2
          go_roundw
          case rel => exact ⟨i + 1, by omega, by go_num, by rw [HCS.out, HDL.out, ← HNq.out], Lib.hid (next HW5.out HW6.out)⟩
          case measure => simp [intOf]; omega
    · obtain rfl : i = z := by omega
      have hca := cnt_all (datL (colsOf l k t i)) i (by omega) _ (Nat.le_refl _)
      have hdp := dats_pars (colsOf l k t i)
      rw [HN.out] at hdp
      rw [hca]
      have hM := hM32.out
      generalize (datL (colsOf l k t i)).length = M at *
      have HDP := Lib.hid hdp
      clear hdp hca
      go_wp2_with fail
      go_loopw [16, 17] (fun i16 i17 wr => ∃ j p : Nat, j ≤ nL ∧ p ≤ j ∧ i17 = .int .i64 (j : Int) ∧ i16 = .int .i64 (p : Int) ∧ Hid (((colsOf l k t i).take j).countP (fun x => x.par) = p) ∧ Hid (Below w3.heap.size w3 wr)) (fun _ i _ => nL - (intOf i).toNat)
      case atStart => exact ⟨0, 0, Nat.zero_le _, Nat.zero_le _, rfl, rfl, Lib.hid rfl, HW⟩
      case round =>
        obtain ⟨j, p, hj, hp, rfl, rfl, HP, HW7⟩ := hrel
        by_cases hjn : j < nL
        · obtain ⟨xl, hxl⟩ : ∃ xl, (colsOf l k t i)[j]'(by rw [HN.out]; exact hjn) = xl := ⟨_, rfl⟩
          have HXl : Hid (∃ h : j < (colsOf l k t i).length, (colsOf l k t i)[j] = xl) := Lib.hid ⟨_, hxl⟩
          clear hxl
          obtain ⟨e0, e1, e2, e3⟩ : IsC wr g (j * 4) xl := by obtain ⟨h, e⟩ := HXl.out; rw [← e]; exact (HC.out j h).below hlt HW7.out
          have HT : Hid (((colsOf l k t i).take (j + 1)).countP (fun x => x.par) = p + (if xl.par then 1 else 0)) := Lib.hid (by
            obtain ⟨h, e⟩ := HXl.out
            rw [List.take_add_one, List.getElem?_eq_getElem h, e, List.countP_append, HP.out]
            simp [List.countP_cons])
          cases hpx : xl.par with
          | true =>
            rw [hpx] at e2
            have HPX := Lib.hid hpx
            clear hpx
            go_wp2
            go_roundw
            case rel => exact ⟨j + 1, p + 1, by omega, by omega, by go_num, by go_num, Lib.hid (by rw [HT.out, HPX.out]; rfl), HW7⟩
            case measure => simp [intOf]; omega
          | false =>
            rw [hpx] at e2
            have HPX := Lib.hid hpx
            clear hpx
            go_wp2
            go_roundw
            case rel => exact ⟨j + 1, p, by omega, by omega, by go_num, rfl, Lib.hid (by rw [HT.out, HPX.out]; rfl), HW7⟩
            case measure => simp [intOf]; omega
        · obtain rfl : j = nL := by omega
          have hsum : (M : Int) + p = j := by
            have h1 := HP.out
            rw [List.take_of_length_le (by rw [HN.out]; exact Nat.le_refl _)] at h1
            have h2 := HDP.out
            rw [h1] at h2
            omega
          have hsb : ((M : Int) + p == (j : Int)) = true := by simp [hsum]
          have HSU := Lib.hid hsum
          clear hsum
          go_wp2
          go_ret
          exact ⟨rfl, next K4.out.h.below HW7.out⟩
end Go.Proofs.Ytebejoigdofonaa
