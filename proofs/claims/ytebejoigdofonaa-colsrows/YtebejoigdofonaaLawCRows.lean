/-
  The walk of polderlaw06.ColsRows.
-/
import Derived.Test.YtebejoigdofonaaCg
import Derived.Test.YtebejoigdofonaaCm
import Derived.Test.YtebejoigdofonaaCn
namespace Go.Proofs.Ytebejoigdofonaa
open Go.RowKit

/-- The devices of a row's columns, of the first j. -/
def rowDevs (L : List C) (r : Nat) (j : Nat) : List Int := ((L.take j).filter fun x => decide (x.row = (r : Int))).map C.dev
theorem rowDevs_yes {L : List C} {r j : Nat} {x : C} (hx : ∃ h : j < L.length, L[j] = x) (hr : x.row = (r : Int)) : rowDevs L r (j + 1) = rowDevs L r j ++ [x.dev] := by
  obtain ⟨h, rfl⟩ := hx
  unfold rowDevs
  rw [List.take_add_one, List.getElem?_eq_getElem h, List.filter_append, List.map_append]
  simp [hr]
theorem rowDevs_no {L : List C} {r j : Nat} {x : C} (hx : ∃ h : j < L.length, L[j] = x) (hr : ¬ x.row = (r : Int)) : rowDevs L r (j + 1) = rowDevs L r j := by
  obtain ⟨h, rfl⟩ := hx
  unfold rowDevs
  rw [List.take_add_one, List.getElem?_eq_getElem h, List.filter_append, List.map_append]
  simp [hr]
theorem rowDevs_len (L : List C) (r j : Nat) : (rowDevs L r j).length ≤ j := by
  unfold rowDevs
  rw [List.length_map]
  exact Nat.le_trans (List.length_filter_le _ _) (by rw [List.length_take]; omega)
theorem rowDevs_mem {L : List C} {r j : Nat} {d : Int} (h : d ∈ rowDevs L r j) : ∃ i, ∃ hi : i < L.length, i < j ∧ L[i].row = (r : Int) ∧ L[i].dev = d := by
  obtain ⟨x, hx, rfl⟩ := List.mem_map.1 h
  obtain ⟨h1, h2⟩ := List.mem_filter.1 hx
  obtain ⟨i, hi, rfl⟩ := List.getElem_of_mem h1
  rw [List.length_take] at hi
  refine ⟨i, by omega, by omega, ?_, ?_⟩
  · rw [List.getElem_take] at h2; simpa using h2
  · rw [List.getElem_take]
theorem count_take {L : List C} {p : C → Bool} {j : Nat} {x : C} (hx : ∃ h : j < L.length, L[j] = x) : (L.take (j + 1)).countP p = (L.take j).countP p + if p x then 1 else 0 := by
  obtain ⟨h, rfl⟩ := hx
  rw [List.take_add_one, List.getElem?_eq_getElem h, List.countP_append]
  simp [List.countP_cons]

set_option maxHeartbeats 2000000 in
set_option maxRecDepth 100000 in
theorem walk_ColsRows (v : Value) (l : List (Int × Int)) (s k t z : Int) (w : World) (h : Meas w v l s) (hk : I64 k) (ht : I64 t) (hz : (Lit.int .i64 z).wf = true) :
    Calls Try.prog 4 #[v, .agg #[.int .i64 k, .int .i64 t], .int .i64 z] w fun e w' => e = .returned (.bool true) ∧ Below w.heap.size w w' := by
  have K1 := h
  obtain ⟨a, n, c, rfl, hg⟩ := id h
  replace K1 := Lib.hid (HeldP.start k t K1)
  have HNn : Hid (l.length = n) := Lib.hid hg.1.2.1
  have HK := Lib.hid hk
  have HT := Lib.hid ht
  have HZ := Lib.hid (bounds_i64 hz)
  clear h hg hk ht hz
  go_enter Try.func4, Try.ntmps4
  go_wp2_with fail
  refine (of_any l s _ _ K1.out.h.m k t z HK.out HT.out HZ.out).mono ?_
  rintro e w1 ⟨v1, er1, rfl, hO1, b1⟩
  have K2 := Lib.hid (K1.out.next b1)
  have HO1 := Lib.hid hO1
  clear hO1 b1 K1
  go_wp2_with fail
  refine (awake6 _).mono ?_
  rintro e w3 ⟨rfl, b3⟩
  have K4 := Lib.hid (K2.out.next b3)
  have B3 := Lib.hid b3
  clear b3 K2
  rcases HO1.out with ⟨_, rfl, rfl⟩ | ⟨k, t, z, rfl, rfl, rfl, hB, rfl, hL⟩
  · go_wp2_with fail
    refine (awake6 _).mono ?_
    rintro e w4 ⟨rfl, b4⟩
    go_wp2
    go_ret
    exact ⟨rfl, next K4.out.h.below b4⟩
  obtain ⟨g, nL, cL, rfl, hnL, hlt, hC⟩ := (hL.v.next B3.out).some hB.laid.pos
  have hn32 : nL ≤ 32 := by rw [← hnL]; exact hB.laid.few
  have hnp : 0 < nL := by rw [← hnL]; exact hB.laid.pos
  obtain ⟨kk, u, hlk, hok⟩ : ∃ (kk : Int) (u : Nat), l[k]'hB.hk = (kk, (u : Int)) ∧ okG (kk, (u : Int)) = true := by
    have hok := hB.right.all k hB.hk
    have hw := okG_wide hok
    exact ⟨(l[k]'hB.hk).1, (l[k]'hB.hk).2.toNat, by rw [Int.toNat_of_nonneg (by omega)], by rw [Int.toNat_of_nonneg (by omega)]; exact hok⟩
  obtain ⟨R, hR⟩ := hB.rowed hlk
  have R4 := hR.few
  have HR := Lib.hid hR
  have HB := Lib.hid hB
  have HN := Lib.hid hnL
  have HC := Lib.hid hC
  have HLK : Hid (∃ h : k < l.length, l[k] = (kk, (u : Int))) := Lib.hid ⟨_, hlk⟩
  have z1 := hB.z1
  have z4 := hB.z4
  have hkn : k < n := by rw [← HNn.out]; exact hB.hk
  have hn4 : n ≤ 4 := by rw [← HNn.out]; exact hB.right.few
  have HU : Hid (1 ≤ (u : Int) ∧ (u : Int) ≤ 8) := Lib.hid (okG_wide hok)
  have HOK := Lib.hid hok
  clear hR hB hL hnL hC HO1 B3 HK HT HZ hlk hok
  obtain ⟨L, hLd⟩ : ∃ L, colsOf l k t z = L := ⟨_, rfl⟩
  have HLd := Lib.hid hLd
  rw [hLd] at HR HN HC
  clear hLd
  go_wp2_with fail
  go_loopw [9, 10] (fun i9 i10 wr => ∃ r dt : Nat, r ≤ R ∧ dt ≤ 32 ∧ i10 = .int .i64 (r : Int) ∧ i9 = .int .i64 (dt : Int) ∧ Hid (L.countP (fun x => decide (x.row < (r : Int)) && !x.par) = dt) ∧ Hid (Below w3.heap.size w3 wr)) (fun _ i _ => R - (intOf i).toNat)
  case atStart => exact ⟨0, 0, Nat.zero_le _, by omega, rfl, rfl, Lib.hid (count_none L fun j h => (HR.out.in_ j h).1), Lib.hid (Below.refl _ _)⟩
  case round =>
    obtain ⟨r, dt, hr, hdt, rfl, rfl, HDT, HW⟩ := hrel
    have CR : Hid (∀ w', Below w3.heap.size w3 w' → Calls Try.prog 12 #[.slice (some ⟨g, 0, none⟩) nL cL] w' fun e w'' => e = .returned (.int .i64 (R : Int)) ∧ Below w'.heap.size w' w'') :=
      Lib.hid fun w' hb => rows_any w' L g nL cL (Nat.lt_of_lt_of_le hlt hb.size) HN.out (by omega) (fun j h => (HC.out j h).below hlt hb) R (by omega) HR.out.in_ HR.out.last
    go_wp2_with fail
    refine (CR.out wr HW.out).mono ?_
    rintro e w6 ⟨rfl, b6⟩
    have HW6 := Lib.hid (next HW.out b6)
    have hlt6 : g < w6.heap.size := Nat.lt_of_lt_of_le hlt HW6.out.size
    clear b6
    by_cases hrR : r < R
    · go_wp2_with fail
      go_loopw [9, 11, 12, 13] (fun i9 i11 i12 i13 wr => ∃ j d p : Nat, j ≤ nL ∧ d ≤ 32 + j ∧ p ≤ j ∧ i13 = .int .i64 (j : Int) ∧ i12 = .int .i64 (p : Int) ∧ i9 = .int .i64 (d : Int) ∧ Hid (d = dt + (L.take j).countP (fun x => decide (x.row = (r : Int)) && !x.par)) ∧ Hid (p = (L.take j).countP (fun x => decide (x.row = (r : Int)) && x.par)) ∧ Hid (OwnI w6.heap.size wr i11 (rowDevs L r j)) ∧ Hid (Below w6.heap.size w6 wr)) (fun _ _ _ i _ => nL - (intOf i).toNat)
      case atStart => exact ⟨0, dt, 0, Nat.zero_le _, by omega, Nat.le_refl _, rfl, rfl, rfl, Lib.hid rfl, Lib.hid rfl, Lib.hid (OwnI.nil _ _), Lib.hid (Below.refl _ _)⟩
      case round =>
        obtain ⟨j, d, p, hj, hd, hp, rfl, rfl, rfl, HD, HP, HOI, HW7⟩ := hrel
        by_cases hjn : j < nL
        · obtain ⟨x, hx⟩ : ∃ x, L[j]'(by rw [HN.out]; exact hjn) = x := ⟨_, rfl⟩
          have HX : Hid (∃ h : j < L.length, L[j] = x) := Lib.hid ⟨_, hx⟩
          clear hx
          have HI : Hid (IsC wr g (j * 4) x) := Lib.hid (by obtain ⟨h, e⟩ := HX.out; rw [← e]; exact (HC.out j h).below hlt (next HW6.out HW7.out))
          have e0 := HI.out.c0
          have e2 := HI.out.c2
          have e3 := HI.out.c3
          by_cases hrow : x.row = (r : Int)
          · have hrb : (x.row != (r : Int)) = false := by simp [hrow]
            have HRO := Lib.hid hrow
            clear hrow
            have hOV := HOI.out.v
            obtain ⟨da, dn, dc, rfl, hdn, hdc, hdv⟩ := hOV
            have HDN := Lib.hid hdn
            have HDV := Lib.hid hdv
            have hdn32 : dn ≤ 32 := by have := rowDevs_len L r j; rw [hdn] at this; omega
            have HXD : Hid (∀ q (h : q < (rowDevs L r j).length), ((rowDevs L r j)[q] == x.dev) = false) := Lib.hid fun q h => by
              obtain ⟨i, hi, hij, hri, hdi⟩ := rowDevs_mem (List.getElem_mem h)
              obtain ⟨hjl, ex⟩ := HX.out
              rw [beq_eq_false_iff_ne, ← hdi, ← ex]
              exact HR.out.devs i j hi hjl hij (by rw [ex, hri, HRO.out])
            clear hdn hdv
            rename World => w7
            have hlt7 : g < w7.heap.size := Nat.lt_of_lt_of_le hlt6 HW7.out.size
            go_wp2_with fail
            go_loopw [14] (fun i14 wq => ∃ q : Nat, q ≤ dn ∧ i14 = .int .i64 (q : Int) ∧ Hid (Below w7.heap.size w7 wq)) (fun i _ => dn - (intOf i).toNat)
            case atStart => exact ⟨0, Nat.zero_le _, rfl, Lib.hid (Below.refl _ _)⟩
            case round =>
              obtain ⟨q, hq, rfl, HW8⟩ := hrel
              clear e0 e2 e3
              have HI8 : Hid (IsC wr g (j * 4) x) := Lib.hid (HI.out.below hlt7 HW8.out)
              have e0 := HI8.out.c0
              have e2 := HI8.out.c2
              by_cases hqn : q < dn
              · have hql : q < (rowDevs L r j).length := by rw [HDN.out]; exact hqn
                obtain ⟨gd, rfl, hgd, hcd⟩ := HDV.out q hql
                have hne := HXD.out q hql
                obtain ⟨y, hy⟩ : ∃ y, (rowDevs L r j)[q] = y := ⟨_, rfl⟩
                rw [hy] at hcd hne
                have hcd8 := (HW8.out.cell (p := ⟨gd, q, none⟩) hgd).trans hcd
                clear hcd hy hql
                go_wp2_with fail
                go_quiet (fail)
                go_wp2
                go_roundw
                case rel => exact ⟨q + 1, by omega, by go_num, Lib.hid (below_drewN HW8.out _)⟩
                case measure => simp [intOf]; omega
              · obtain rfl : q = dn := by omega
                have hsz := (next HW7.out HW8.out).size
                have HLE : Hid ((rowDevs L r j).length ≤ 100000) := Lib.hid (by rw [HDN.out]; omega)
                have HRN := Lib.hid (rowDevs_yes HX.out HRO.out : rowDevs L r (j + 1) = _)
                have HCT := Lib.hid (count_take (p := fun x => decide (x.row = (r : Int)) && !x.par) HX.out)
                have HCP := Lib.hid (count_take (p := fun x => decide (x.row = (r : Int)) && x.par) HX.out)
                cases hpx : x.par with
                | true =>
                  rw [hpx] at e2
                  have HPX := Lib.hid hpx
                  clear hpx
                  go_wp2_with (first | (at_builtin; refine wpList_append_int _ rfl _ _ rfl w6.heap.size _ _ x.dev wr.heap.size 1 rfl rfl ((HOI.out.below HW8.out).below (boxed _ _)) (by simp) (by simp; omega) HLE.out ?_; intro v9 w9 hown9 hb9 hs9; have k2 := (((boxed wr (.cells #[.int .i64 x.dev] 3)).mono hsz).trans hb9); have e9 := (k2.cell (p := ⟨g, j * 4 + 2, none⟩) hlt6).trans e2))
                  go_roundw
                  case rel =>
                    refine ⟨j + 1, d, p + 1, by omega, by omega, by omega, by go_num, by go_num, rfl, Lib.hid ?_, Lib.hid ?_, Lib.hid (by rw [HRN.out]; exact hown9), Lib.hid ((next HW7.out HW8.out).trans k2)⟩
                    · rw [HCT.out, HPX.out, HRO.out]; have := HD.out; simp; omega
                    · rw [HCP.out, HPX.out, HRO.out]; have := HP.out; simp; omega
                  case measure => simp [intOf]; omega
                | false =>
                  rw [hpx] at e2
                  have HPX := Lib.hid hpx
                  clear hpx
                  go_wp2_with (first | (at_builtin; refine wpList_append_int _ rfl _ _ rfl w6.heap.size _ _ x.dev wr.heap.size 1 rfl rfl ((HOI.out.below HW8.out).below (boxed _ _)) (by simp) (by simp; omega) HLE.out ?_; intro v9 w9 hown9 hb9 hs9; have k2 := (((boxed wr (.cells #[.int .i64 x.dev] 3)).mono hsz).trans hb9); have e9 := (k2.cell (p := ⟨g, j * 4 + 2, none⟩) hlt6).trans e2))
                  go_roundw
                  case rel =>
                    refine ⟨j + 1, d + 1, p, by omega, by omega, by omega, by go_num, rfl, by go_num, Lib.hid ?_, Lib.hid ?_, Lib.hid (by rw [HRN.out]; exact hown9), Lib.hid ((next HW7.out HW8.out).trans k2)⟩
                    · rw [HCT.out, HPX.out, HRO.out]; have := HD.out; simp; omega
                    · rw [HCP.out, HPX.out, HRO.out]; have := HP.out; simp; omega
                  case measure => simp [intOf]; omega
          · have hrb : (x.row != (r : Int)) = true := by simp [hrow]
            have HRN := Lib.hid (rowDevs_no HX.out hrow : rowDevs L r (j + 1) = _)
            have HCT := Lib.hid (count_take (p := fun x => decide (x.row = (r : Int)) && !x.par) HX.out)
            have HCP := Lib.hid (count_take (p := fun x => decide (x.row = (r : Int)) && x.par) HX.out)
            have HRO := Lib.hid hrow
            clear hrow
            go_wp2
            go_roundw
            case rel =>
              refine ⟨j + 1, d, p, by omega, by omega, by omega, by go_num, rfl, rfl, Lib.hid ?_, Lib.hid ?_, Lib.hid (by rw [HRN.out]; exact HOI.out), HW7⟩
              · rw [HCT.out]; have := HD.out; simp [HRO.out]; omega
              · rw [HCP.out]; have := HP.out; simp [HRO.out]; omega
            case measure => simp [intOf]; omega
        · obtain rfl : j = nL := by omega
          have hpk : (p : Int) = kk := by
            have h1 := HP.out
            rw [List.take_of_length_le (by rw [HN.out]; exact Nat.le_refl _)] at h1
            rw [h1]
            exact HR.out.pars r hrR
          have hpb : ((p : Int) != kk) = false := by simp [hpk]
          have HPK := Lib.hid hpk
          have K7 := Lib.hid ((K4.out.next HW6.out).next HW7.out)
          obtain ⟨gg, o, rfl, hlg, f0, f1⟩ := K7.out.h.at_ HLK.out.1 HLK.out.2
          dsimp only at f0 f1
          have c0 := K7.out.h.c0
          have p0 := K7.out.p0
          have HCN : Hid (L.countP (fun x => decide (x.row < ((r + 1 : Nat) : Int)) && !x.par) = d) := Lib.hid (by
            rw [count_rows, HDT.out]
            have h1 := HD.out
            rw [List.take_of_length_le (by rw [HN.out]; exact Nat.le_refl _)] at h1
            exact h1.symm)
          have hd32 : d ≤ 32 := by rw [← HCN.out]; have := List.countP_le_length (p := fun x : C => decide (x.row < ((r + 1 : Nat) : Int)) && !x.par) (l := L); rw [HN.out] at this; omega
          clear hpk
          go_wp2
          go_roundw
          case rel => exact ⟨r + 1, d, by omega, hd32, by go_num, rfl, HCN, Lib.hid (next HW6.out HW7.out)⟩
          case measure => simp [intOf]; omega
    · obtain rfl : r = R := by omega
      have hdl : dt = (datL L).length := by rw [← HDT.out]; exact count_all L r fun j h => (HR.out.in_ j h).2
      have HDL := Lib.hid hdl
      clear hdl
      go_wp2_with fail
      go_loopw [15] (fun i15 wr => ∃ i : Nat, i ≤ z ∧ i15 = .int .i64 (i : Int) ∧ Hid (Below w6.heap.size w6 wr)) (fun i _ => z - (intOf i).toNat)
      case atStart => exact ⟨0, Nat.zero_le _, rfl, Lib.hid (Below.refl _ _)⟩
      case round =>
        obtain ⟨i, hi, rfl, HW7⟩ := hrel
        have K7 := Lib.hid ((K4.out.next HW6.out).next HW7.out)
        have c0 := K7.out.h.c0
        have c1 := K7.out.h.c1
        have p0 := K7.out.p0
        have p1 := K7.out.p1
        by_cases hiz : i < z
        · obtain ⟨D, hD⟩ : ∃ D, dataOf l k t z (i : Int) = D := ⟨_, rfl⟩
          have HD := Lib.hid hD
          have hDp : Hid (decide (0 < D.length) = true) := Lib.hid (by rw [← hD]; exact decide_eq_true (held_some _ _ _ hiz HB.out.datas))
          clear hD
          go_wp2_with fail
          refine (data_ok l s _ _ K7.out.h.m k t z HB.out (i : Int) ⟨by omega, by omega⟩ D HD.out).mono ?_
          rintro e w8 ⟨v8, rfl, _, b8⟩
          rw [hDp.out]
          go_wp2
          go_roundw
          case rel => exact ⟨i + 1, by omega, by go_num, Lib.hid (next HW7.out b8)⟩
          case measure => simp [intOf]; omega
        · obtain rfl : i = z := by omega
          have HDz : Hid (dataOf l k t i (i : Int) = []) := Lib.hid (held_none _ _ (by omega) _ (.inr (Int.le_refl _)) _)
          go_wp2_with fail
          refine (data_ok l s _ _ K7.out.h.m k t i HB.out (i : Int) ⟨by omega, by omega⟩ [] HDz.out).mono ?_
          rintro e w8 ⟨v8, rfl, _, b8⟩
          have hdf : decide (0 < ([] : List C).length) = false := rfl
          rw [hdf]
          have K8 := Lib.hid (K7.out.next b8)
          have HW8 := Lib.hid (next (next HW6.out HW7.out) b8)
          clear c0 c1 p0 p1 b8
          obtain ⟨gg, o, rfl, hlg, f0, f1⟩ := K8.out.h.at_ HLK.out.1 HLK.out.2
          dsimp only at f0 f1
          have c0 := K8.out.h.c0
          have p0 := K8.out.p0
          rcases okG_cases HOK.out with ⟨rfl, uu1, uu8⟩ | ⟨rfl, uu1, uu8⟩
          · have hdz : (dt : Int) = (i : Int) * u := by
              have h1 := HR.out.datas
              rw [if_pos rfl, ← HDL.out] at h1
              rw [h1, Int.natCast_mul]
            have hm0 : (0 : Int) ≤ (i : Int) * u := by omega
            have hm1 : (i : Int) * u ≤ 32 := by omega
            have hdb : ((dt : Int) == (i : Int) * u) = true := by simp [hdz]
            have hrz : r = i := HR.out.mir rfl
            have hrb : ((r : Int) == (i : Int)) = true := by simp [hrz]
            have HDZ := Lib.hid hdz
            clear hdz hrz
            go_wp2_with fail
            refine (CR.out w8 HW8.out).mono ?_
            rintro e w9 ⟨rfl, b9⟩
            go_wp2
            go_ret
            exact ⟨rfl, next K8.out.h.below b9⟩
          · have hdz : dt = i := by
              have h1 := HR.out.datas
              rw [if_neg Int.one_ne_zero, ← HDL.out] at h1
              exact h1
            have hdb : ((dt : Int) == (i : Int)) = true := by simp [hdz]
            have HDZ := Lib.hid hdz
            clear hdz
            go_wp2
            go_ret
            exact ⟨rfl, K8.out.h.below⟩
end Go.Proofs.Ytebejoigdofonaa
