/-
  The document's Tries (polderref07): the walk.
-/
import Derived.Test.YtpalgadokdcgnaaRd
import Derived.Test.YtpalgadokdcgnaaPx
import Derived.Test.YtpalgadokdcgnaaMc
import Derived.Deep.DeepCutAuto
namespace Go.Proofs.Ytpalgadokdcgnaa
set_option maxRecDepth 100000
open Go.RowKit M

def trsTo (p : Bool) (fst kk : Int) (L : List C) (G : List ByteArray) (e : Nat) : List (Int × ByteArray) := (List.range e).filterMap (entR p fst kk L G)
theorem trsTo_some {p : Bool} {fst kk : Int} {L : List C} {G : List ByteArray} {e : Nat} {x : Int × ByteArray} (h : entR p fst kk L G e = some x) : trsTo p fst kk L G (e + 1) = trsTo p fst kk L G e ++ [x] := by
  unfold trsTo; rw [List.range_succ, List.filterMap_append, List.filterMap_cons_some h]; rfl
theorem trsTo_none {p : Bool} {fst kk : Int} {L : List C} {G : List ByteArray} {e : Nat} (h : entR p fst kk L G e = none) : trsTo p fst kk L G (e + 1) = trsTo p fst kk L G e := by
  unfold trsTo; rw [List.range_succ, List.filterMap_append, List.filterMap_cons_none h]; simp
theorem trsTo_le (p : Bool) (fst kk : Int) (L : List C) (G : List ByteArray) (e : Nat) : (trsTo p fst kk L G e).length ≤ e := by
  unfold trsTo; exact Nat.le_trans (List.length_filterMap_le _ _) (by simp)
theorem appT_size (s t : ByteArray) : (s ++ t).size = s.size + t.size := by rw [ByteArray.size_append]

set_option maxHeartbeats 16000000 in
theorem refTries_any (l : List (Int × Int)) (sc : Int) (v : Value) (w : World) (h : Meas w v l sc) (k t z : Nat) (hB : Blk l sc k t z) (G : List ByteArray) (vG : Value) (hG : Txt w vG G) (hGl : G.length = (colsOf l k t z).length) (hfit : ∀ x ∈ G, x.size = 0 ∨ x.size = 64) :
    Calls Try.prog 20 #[v, .agg #[.int .i64 (k : Int), .int .i64 (t : Int)], .int .i64 (z : Int), vG] w fun e w' => ∃ v', e = .returned v' ∧ OwnT w.heap.size w' v' (triesB l k t z G) ∧ Below w.heap.size w w' := by
  obtain ⟨kk, u, hE⟩ := hB.enc7 (s := zeroB (z * 64)) (zeroB_size _)
  have K1 := h
  obtain ⟨a, n, c, rfl, hg⟩ := id h
  replace K1 := Lib.hid (HeldP.start (k : Int) (t : Int) K1)
  have HOF := Lib.hid (refOf_any l sc _ _ K1.out.h.m k t z hB)
  generalize hL : colsOf l k t z = L at hE HOF hGl
  generalize (fun i => sect (zeroB (z * 64)) (i % z)) = f at hE
  obtain ⟨hm0, hm32⟩ := hE.few
  obtain ⟨m, hm⟩ : ∃ m, L.length = m := ⟨_, rfl⟩
  rw [hm] at hm0 hm32 hGl
  have HML := Lib.hid hm
  have HE := Lib.hid hE
  have HT := Lib.hid hG
  have HGL := Lib.hid hGl
  have HFT := Lib.hid hfit
  obtain ⟨gG, oG, cG, eG, hcG, hgG, hjG⟩ := hG.isSome (by omega)
  rw [hGl] at eG hcG
  subst eG
  have HJG := Lib.hid hjG
  have hkl := hB.hk
  have hlk : l[k] = (kk, (u : Int)) := by rw [← getD_at hkl]; exact hE.kind.grp
  have HLK : Hid (∃ h : k < l.length, l[k] = (kk, (u : Int))) := Lib.hid ⟨hkl, hlk⟩
  have hk4 := hB.bounds.2
  have hu : 1 ≤ u ∧ u ≤ 8 := by rcases hE.kind.ok with ⟨_, h1, h2, _⟩ | ⟨_, h1, h2, _⟩ <;> omega
  obtain ⟨hu1, hu8⟩ := hu
  obtain ⟨fst, hfst⟩ : ∃ x, aheadL l k = x := ⟨_, rfl⟩
  have hfb := hB.right.bounds k (Nat.le_of_lt hkl)
  rw [hfst] at hfb
  have HFST := Lib.hid hfst
  have HFIN : Hid (trsTo (kk == 1) fst kk L G (kk.toNat + u) = triesB l k t z G) := Lib.hid (by rw [← hfst]; exact hE.refTries (by rw [hGl, hm]))
  have HZ := Lib.hid hB.z4
  clear h hg hE hm hG hjG hfit hfst hGl hkl hlk hL
  have HR := Lib.hid hB
  clear hB
  go_enter Try.func20, Try.ntmps20
  go_wp2_with fail
  refine HOF.out.mono ?_
  rintro e w2 ⟨v2, rfl, hO2, b2⟩
  obtain ⟨g6, cc6, rfl, hcc6, hg6B, hA6⟩ := OwnC.some hO2 (by rw [HML.out]; exact hm0)
  rw [HML.out] at hcc6 ⊢
  have HA6 := Lib.hid hA6
  have K2 := Lib.hid (K1.out.next b2)
  have hnl := K2.out.h.len
  have hkn : k < n := by rw [← hnl.1]; exact HLK.out.1
  have hn9 := hnl.2
  obtain ⟨gg, og, rfl, hlt, e0, e1⟩ := K2.out.h.at_ HLK.out.1 HLK.out.2
  dsimp only at e0 e1
  have c0 := K2.out.h.c0
  have c1 := K2.out.h.c1
  have p0 := K2.out.p0
  clear hO2 hA6 b2 K1 HOF hnl
  have b3 := boxed w2 (.cells #[.int .i64 kk, .int .i64 (u : Int)] 37)
  have K3 := Lib.hid (K2.out.next b3)
  have c0' := K3.out.h.c0
  have c1' := K3.out.h.c1
  have p0' := K3.out.p0
  have hx0 : (w2.alloc (.cells #[.int .i64 kk, .int .i64 (u : Int)] 37)).cell? ⟨w2.heap.size, 0, none⟩ = some (.int .i64 kk) := (new_pair _ _ _ _).1
  have hx1 : (w2.alloc (.cells #[.int .i64 kk, .int .i64 (u : Int)] 37)).cell? ⟨w2.heap.size, 1, none⟩ = some (.int .i64 (u : Int)) := (new_pair _ _ _ _).2
  go_wp2_with fail
  refine (refFirst_any l sc _ _ K3.out.h.m HR.out.right k (Nat.le_of_lt HR.out.hk) fst HFST.out).mono ?_
  rintro e wA ⟨rfl, b4⟩
  have hsA := b4.size
  rw [World.size_alloc] at hsA
  have hx0A := (b4.cell (p := ⟨w2.heap.size, 0, none⟩) (by simp)).trans hx0
  have hx1A := (b4.cell (p := ⟨w2.heap.size, 1, none⟩) (by simp)).trans hx1
  have HAA := Lib.hid ((HA6.out.next b3).next b4)
  have HWA := Lib.hid (K3.out.next b4).h.below
  have hg6A := HAA.out.lt
  have HGA : Hid (∀ j (h : j < G.length), wA.cell? ⟨gG, oG + j, none⟩ = some (.string G[j])) := Lib.hid fun j h => by rw [HWA.out.cell (p := ⟨gG, oG + j, none⟩) hgG]; exact HJG.out j h
  have hgGA : gG < wA.heap.size := Nat.lt_of_lt_of_le hgG HWA.out.size
  generalize w2.heap.size = gx at hx0A hx1A hsA
  clear b3 b4 K2 K3 c0 c1 p0 c0' c1' p0' hx0 hx1 e0 e1 HA6 HJG HT hlt
  obtain ⟨p, hp⟩ : ∃ p, (kk == 1) = p := ⟨_, rfl⟩
  rw [hp] at HFIN
  have kk01 : kk = 0 ∨ kk = 1 := by rcases HE.out.kind.ok with h | h; exact .inl h.1; exact .inr h.1
  obtain ⟨D0, hD0⟩ : ∃ D0, fst - kk = D0 := ⟨_, rfl⟩
  have hw1 : IntKind.i64.wrap (fst - kk) = D0 := by rw [IntKind.wrap_i64]; omega
  have HD0 := Lib.hid hD0
  clear hD0
  have hw2 : IntKind.i64.wrap (fst + (u : Int)) = fst + (u : Int) := by rw [IntKind.wrap_i64]; omega
  obtain ⟨Et, hEt⟩ : ∃ Et, kk.toNat + u = Et := ⟨_, rfl⟩
  rw [hEt] at HFIN
  go_wp2_with fail
  go_loopw [10, 13] (fun t10 t13 wr => ∃ (e nO : Nat) (b : Option Addr) (cc : Nat) (d : Int), e ≤ Et ∧ nO ≤ e ∧ t10 = .slice b nO cc ∧ t13 = .int .i64 d ∧ d = fst - kk + e ∧ Hid (OwnT wA.heap.size wr (.slice b nO cc) (trsTo p fst kk L G e)) ∧ Hid ((trsTo p fst kk L G e).length = nO) ∧ Hid (Below wA.heap.size wA wr)) (fun _ d _ => (fst + u - intOf d).toNat)
  case atStart => exact ⟨0, 0, none, 0, D0, Nat.zero_le _, Nat.le_refl _, rfl, rfl, by rw [← HD0.out]; simp, Lib.hid (OwnT.nil _ _), Lib.hid rfl, Lib.hid (Below.refl _ _)⟩
  case round =>
    obtain ⟨e, nO, b, cc, d, he, hne, rfl, rfl, hd, HO, HON, HW⟩ := hrel
    have hsr := HW.out.size
    have y0 := (HW.out.cell (p := ⟨gx, 0, none⟩) (by show gx < wA.heap.size; omega)).trans hx0A
    have y1 := (HW.out.cell (p := ⟨gx, 1, none⟩) (by show gx < wA.heap.size; omega)).trans hx1A
    by_cases hde : e < Et
    · have hdlt : d < fst + u := by rcases kk01 with rfl | rfl <;> omega
      have hdl : decide (d < fst + (u : Int)) = true := decide_eq_true hdlt
      obtain ⟨O0, hO0⟩ : ∃ b, decide (d < fst) = b := ⟨_, rfl⟩
      have hd0 : -1 ≤ d ∧ d ≤ 100 := by rcases kk01 with rfl | rfl <;> omega
      obtain ⟨hd1, hd2⟩ := hd0
      have HD := Lib.hid hd
      have HO0 := Lib.hid hO0
      clear hd
      go_wp2_with fail
      rename World => wB
      go_loopw [14, 15, 16, 17] (fun t14 t15 t16 i17 wr => ∃ (i : Nat) (S : ByteArray) (Wh Ow : Bool), i ≤ m ∧ S.size ≤ 64 * i ∧ t14 = .string S ∧ t15 = .bool Wh ∧ t16 = .bool Ow ∧ i17 = .int .i64 (i : Int) ∧ Hid (Ow = (O0 || owT L d i)) ∧ Hid (Wh = !holeL (clT p L G d i)) ∧ Hid (Wh = true → S = joinB (clT p L G d i)) ∧ Hid (Below wB.heap.size wB wr)) (fun _ _ _ i _ => m - (intOf i).toNat)
      case atStart => exact ⟨0, ⟨#[]⟩, true, O0, Nat.zero_le _, Nat.le_refl _, rfl, rfl, by rw [← HO0.out], rfl, Lib.hid (by simp [owT]), Lib.hid (by simp [clT, idx, holeL]), Lib.hid (fun _ => by simp [clT, idx, joinB]), Lib.hid (Below.refl _ _)⟩
      case round =>
        obtain ⟨i, S, Wh, Ow, hi, hSs, rfl, rfl, rfl, rfl, HOW, HWH, HSJ, HV⟩ := hrel
        have HWV := Lib.hid (next HW.out HV.out)
        have hsv := HWV.out.size
        have x0 := (HV.out.cell (p := ⟨gx, 0, none⟩) (by show gx < wB.heap.size; omega)).trans y0
        have x1 := (HV.out.cell (p := ⟨gx, 1, none⟩) (by show gx < wB.heap.size; omega)).trans y1
        by_cases him : i < m
        · have hiL : i < L.length := by rw [HML.out]; exact him
          have hiG : i < G.length := by rw [HGL.out]; exact him
          obtain ⟨x, hx⟩ : ∃ x, L[i] = x := ⟨_, rfl⟩
          have hCx := (HAA.out.next HWV.out).at_ i hiL
          rw [hx] at hCx
          obtain ⟨f0, f1, f2, f3⟩ := hCx
          obtain ⟨y, hy⟩ : ∃ y, G[i] = y := ⟨_, rfl⟩
          have hyc := (HWV.out.cell (p := ⟨gG, oG + i, none⟩) hgGA).trans (HGA.out i hiG)
          rw [hy] at hyc
          have hys := HFT.out y (by rw [← hy]; exact List.getElem_mem _)
          have hys64 : y.size ≤ 64 := by omega
          have HPX : Hid (parAt L i = x.par) := Lib.hid (by rw [parAt_eq hiL, hx])
          have HRX : Hid (rowAt L i = x.row) := Lib.hid (by rw [rowAt_eq hiL, hx])
          have HDX : Hid (devAt L i = x.dev) := Lib.hid (by rw [devAt_eq hiL, hx])
          have HGY : Hid (G.getD i ⟨#[]⟩ = y) := Lib.hid (getD_some ⟨hiG, hy⟩)
          have HIL := Lib.hid hiL
          have hqe := empty_txt y
          have HYS := Lib.hid hys
          clear hx hy hiL hiG hys
          cases hpx : x.par with
          | true =>
            rw [hpx] at f2
            have HC1 : Hid (clT p L G d (i + 1) = clT p L G d i) := Lib.hid (clT_no (by unfold clQ; rw [HPX.out, hpx]; rfl))
            have HOW1 : Hid (Ow = (O0 || owT L d (i + 1))) := Lib.hid (by rw [owT_succ, HPX.out, hpx, HOW.out]; simp)
            go_wp2
            go_roundw
            case rel => exact ⟨i + 1, S, Wh, Ow, by omega, by omega, rfl, rfl, rfl, by go_num, HOW1, Lib.hid (by rw [HC1.out]; exact HWH.out), Lib.hid (by rw [HC1.out]; exact HSJ.out), HV⟩
            case measure => simp [intOf]; omega
          | false =>
            rw [hpx] at f2
            have HPF : Hid (parAt L i = false) := Lib.hid (by rw [HPX.out]; exact hpx)
            clear hpx HPX
            rcases kk01 with hk0 | hk1
            · subst hk0
              obtain rfl : false = p := hp
              cases hdd : (x.dev == d) with
              | false =>
                have hdd2 : (x.dev != d) = true := by unfold bne; rw [hdd]; rfl
                have HC1 : Hid (clT false L G d (i + 1) = clT false L G d i) := Lib.hid (clT_no (by unfold clQ; rw [HPF.out, HDX.out, hdd]; rfl))
                have HOW1 : Hid (Ow = (O0 || owT L d (i + 1))) := Lib.hid (by rw [owT_succ, HPF.out, HDX.out, hdd, HOW.out]; simp)
                go_wp2
                go_roundw
                case rel => exact ⟨i + 1, S, Wh, Ow, by omega, by omega, rfl, rfl, rfl, by go_num, HOW1, Lib.hid (by rw [HC1.out]; exact HWH.out), Lib.hid (by rw [HC1.out]; exact HSJ.out), HV⟩
                case measure => simp [intOf]; omega
              | true =>
                have hdd2 : (x.dev != d) = false := by unfold bne; rw [hdd]; rfl
                have HC1 : Hid (clT false L G d (i + 1) = clT false L G d i ++ [y]) := Lib.hid (by rw [clT_yes (by unfold clQ; rw [HPF.out, HDX.out, hdd]; rfl), eltR, HGY.out]; rfl)
                have HOW1 : Hid (true = (O0 || owT L d (i + 1))) := Lib.hid (by rw [owT_succ, HPF.out, HDX.out, hdd]; simp)
                have hSy : (S ++ y).size ≤ 64 * (i + 1) := by rw [appT_size]; omega
                obtain ⟨yz, hyz⟩ : ∃ b, (y.size == 0) = b := ⟨_, rfl⟩
                rw [hyz] at hqe
                obtain ⟨Wn, hWn⟩ : ∃ b, (Wh && !yz) = b := ⟨_, rfl⟩
                have HWV2 := Lib.hid hWn
                have HWn : Hid (Wn = !holeL (clT false L G d (i + 1))) := Lib.hid (by rw [HC1.out, hole_snoc, hyz, ← hWn, HWH.out]; simp)
                have HSn : Hid (Wn = true → S ++ y = joinB (clT false L G d (i + 1))) := Lib.hid fun hW => by
                  have hWh : Wh = true := by rw [← hWn] at hW; cases Wh <;> simp at hW ⊢
                  rw [HC1.out, ← joinB_snoc, ← HSJ.out hWh]
                clear hWn hyz
                go_upto_region 15 with (fail)
                go_cut [16] (fun s16 wc => s16 = .bool true ∧ wc = wr)
                case first =>
                  cases Ow with
                  | true =>
                    go_wp2
                    go_meet
                    exact ⟨by first | rfl | simp, rfl⟩
                  | false =>
                    go_wp2
                    go_meet
                    exact ⟨by first | rfl | simp, rfl⟩
                case rest =>
                  obtain ⟨rfl, hwc⟩ := hcut
                  have hwc' := hwc.symm
                  clear hwc
                  subst hwc'
                  go_upto_region 27 with (fail)
                  go_cut [15] (fun s15 wc => s15 = .bool Wn ∧ wc = wr)
                  case first =>
                    cases Wn with
                    | true =>
                      obtain ⟨hc1, hc2⟩ : Wh = true ∧ yz = false := by have := HWV2.out; cases Wh <;> cases yz <;> simp at this ⊢
                      subst hc1
                      subst hc2
                      go_wp2
                      go_meet
                      exact ⟨rfl, rfl⟩
                    | false =>
                      cases Wh with
                      | true =>
                        have hc2 : yz = true := by have := HWV2.out; cases yz <;> simp at this ⊢
                        subst hc2
                        go_wp2
                        go_meet
                        exact ⟨rfl, rfl⟩
                      | false =>
                        go_wp2
                        go_meet
                        exact ⟨rfl, rfl⟩
                  case rest =>
                    obtain ⟨rfl, hwc⟩ := hcut
                    have hwc' := hwc.symm
                    clear hwc
                    subst hwc'
                    go_wp2
                    go_roundw
                    case rel => exact ⟨i + 1, S ++ y, Wn, true, by omega, hSy, rfl, rfl, rfl, by go_num, HOW1, HWn, HSn, HV⟩
                    case measure => simp [intOf]; omega
            · subst hk1
              obtain rfl : true = p := hp
              cases hdd : (x.dev == d) with
              | false =>
                have hdd2 : (x.dev != d) = true := by unfold bne; rw [hdd]; rfl
                have HC1 : Hid (clT true L G d (i + 1) = clT true L G d i ++ [y]) := Lib.hid (by rw [clT_yes (by unfold clQ; rw [HPF.out]; rfl), eltR, HDX.out, hdd, HGY.out]; rfl)
                have HOW1 : Hid (Ow = (O0 || owT L d (i + 1))) := Lib.hid (by rw [owT_succ, HPF.out, HDX.out, hdd, HOW.out]; simp)
                have hSy : (S ++ y).size ≤ 64 * (i + 1) := by rw [appT_size]; omega
                obtain ⟨yz, hyz⟩ : ∃ b, (y.size == 0) = b := ⟨_, rfl⟩
                rw [hyz] at hqe
                obtain ⟨Wn, hWn⟩ : ∃ b, (Wh && !yz) = b := ⟨_, rfl⟩
                have HWV2 := Lib.hid hWn
                have HWn : Hid (Wn = !holeL (clT true L G d (i + 1))) := Lib.hid (by rw [HC1.out, hole_snoc, hyz, ← hWn, HWH.out]; simp)
                have HSn : Hid (Wn = true → S ++ y = joinB (clT true L G d (i + 1))) := Lib.hid fun hW => by
                  have hWh : Wh = true := by rw [← hWn] at hW; cases Wh <;> simp at hW ⊢
                  rw [HC1.out, ← joinB_snoc, ← HSJ.out hWh]
                clear hWn hyz
                go_upto_region 15 with (fail)
                go_cut [16] (fun s16 wc => s16 = .bool Ow ∧ wc = wr)
                case first =>
                  cases Ow with
                  | true =>
                    go_wp2
                    go_meet
                    exact ⟨by first | rfl | simp, rfl⟩
                  | false =>
                    go_wp2
                    go_meet
                    exact ⟨by first | rfl | simp, rfl⟩
                case rest =>
                  obtain ⟨rfl, hwc⟩ := hcut
                  have hwc' := hwc.symm
                  clear hwc
                  subst hwc'
                  go_upto_region 27 with (fail)
                  go_cut [15] (fun s15 wc => s15 = .bool Wn ∧ wc = wr)
                  case first =>
                    cases Wn with
                    | true =>
                      obtain ⟨hc1, hc2⟩ : Wh = true ∧ yz = false := by have := HWV2.out; cases Wh <;> cases yz <;> simp at this ⊢
                      subst hc1
                      subst hc2
                      go_wp2
                      go_meet
                      exact ⟨rfl, rfl⟩
                    | false =>
                      cases Wh with
                      | true =>
                        have hc2 : yz = true := by have := HWV2.out; cases yz <;> simp at this ⊢
                        subst hc2
                        go_wp2
                        go_meet
                        exact ⟨rfl, rfl⟩
                      | false =>
                        go_wp2
                        go_meet
                        exact ⟨rfl, rfl⟩
                  case rest =>
                    obtain ⟨rfl, hwc⟩ := hcut
                    have hwc' := hwc.symm
                    clear hwc
                    subst hwc'
                    go_wp2
                    go_roundw
                    case rel => exact ⟨i + 1, S ++ y, Wn, Ow, by omega, hSy, rfl, rfl, rfl, by go_num, HOW1, HWn, HSn, HV⟩
                    case measure => simp [intOf]; omega
              | true =>
                have hdd2 : (x.dev != d) = false := by unfold bne; rw [hdd]; rfl
                have HC1 : Hid (clT true L G d (i + 1) = clT true L G d i ++ [mkB (othTo L G i m)]) := Lib.hid (by rw [clT_yes (by unfold clQ; rw [HPF.out]; rfl), eltR, HDX.out, hdd, oth_agn HIL.out, HML.out]; rfl)
                have HOW1 : Hid (true = (O0 || owT L d (i + 1))) := Lib.hid (by rw [owT_succ, HPF.out, HDX.out, hdd]; simp)
                have HON2 : Hid (othTo L G i m ≠ []) := Lib.hid (by rw [← HML.out]; exact oth_ne HIL.out (HE.out.pair rfl i HIL.out HPF.out))
                have HOSZ : Hid (∀ j, ∀ x ∈ othTo L G i j, x.size = 0 ∨ x.size = 64) := Lib.hid fun j x hx => by
                  obtain ⟨q, _, rfl⟩ := List.mem_map.1 hx
                  show (G.getD q ⟨#[]⟩).size = 0 ∨ (G.getD q ⟨#[]⟩).size = 64
                  rw [List.getD_eq_getElem?_getD]
                  cases hq : G[q]? with
                  | none => exact .inl rfl
                  | some t => exact HFT.out t (List.mem_of_getElem? hq)
                go_upto_region 15 with (fail)
                go_cut [16] (fun s16 wc => s16 = .bool true ∧ wc = wr)
                case first =>
                  cases Ow with
                  | true =>
                    go_wp2
                    go_meet
                    exact ⟨by first | rfl | simp, rfl⟩
                  | false =>
                    go_wp2
                    go_meet
                    exact ⟨by first | rfl | simp, rfl⟩
                case rest =>
                  obtain ⟨rfl, hwc⟩ := hcut
                  have hwc' := hwc.symm
                  clear hwc
                  subst hwc'
                  go_wp2_with fail
                  rename World => wC
                  go_loopw [15, 19, 20] (fun t15 t19 i20 wr => ∃ (j q : Nat) (W' : Bool) (b' : Option Addr) (cc' : Nat), j ≤ m ∧ q ≤ j ∧ t15 = .bool W' ∧ t19 = .slice b' q cc' ∧ i20 = .int .i64 (j : Int) ∧ Hid (W' = (Wh && !holeL (othTo L G i j))) ∧ Hid (Own wr wC.heap.size (.slice b' q cc') (othTo L G i j)) ∧ Hid ((othTo L G i j).length = q) ∧ Hid (Below wC.heap.size wC wr)) (fun _ _ i _ => m - (intOf i).toNat)
                  case atStart => exact ⟨0, 0, Wh, none, 0, Nat.zero_le _, Nat.le_refl _, rfl, rfl, rfl, Lib.hid (by simp [othTo, idx, holeL]), Lib.hid (World.ownsRow_nil _ _ _ _), Lib.hid rfl, Lib.hid (Below.refl _ _)⟩
                  case round =>
                    obtain ⟨j, q, W', b', cc', hj, hqj, rfl, rfl, rfl, HW1, HOQ, HQ, HU⟩ := hrel
                    have HWU := Lib.hid (next HWV.out HU.out)
                    have hsu := HU.out.size
                    by_cases hjm : j < m
                    · have hjL : j < L.length := by rw [HML.out]; exact hjm
                      have hjG : j < G.length := by rw [HGL.out]; exact hjm
                      obtain ⟨x', hx'⟩ : ∃ x', L[j] = x' := ⟨_, rfl⟩
                      have hAu := HAA.out.next HWU.out
                      have hCx' := hAu.at_ j hjL
                      rw [hx'] at hCx'
                      obtain ⟨d0, d1, d2, d3⟩ := hCx'
                      have f3' := (HU.out.cell (p := ⟨g6, i * 4 + 3, none⟩) (by show g6 < wC.heap.size; omega)).trans f3
                      obtain ⟨y', hy'⟩ : ∃ y', G[j] = y' := ⟨_, rfl⟩
                      have hyc' := (HWU.out.cell (p := ⟨gG, oG + j, none⟩) hgGA).trans (HGA.out j hjG)
                      rw [hy'] at hyc'
                      have HGY' : Hid (G.getD j ⟨#[]⟩ = y') := Lib.hid (getD_some ⟨hjG, hy'⟩)
                      have HRX' : Hid (rowAt L j = x'.row) := Lib.hid (by rw [rowAt_eq hjL, hx'])
                      have hqe' := empty_txt y'
                      have hg6u := hAu.lt
                      have hgGu : gG < wr.heap.size := Nat.lt_of_lt_of_le hgGA HWU.out.size
                      clear hx' hy' hjL hjG hAu
                      by_cases hij : j = i
                      · have hne : ((j : Int) != (i : Int)) = false := by simp [hij]
                        have HN1 : Hid (othTo L G i (j + 1) = othTo L G i j) := Lib.hid (oth_no (by simp [hij]))
                        clear hij
                        go_wp2_with fail
                        go_quiet (fail)
                        go_wp2
                        go_roundw
                        case rel => exact ⟨j + 1, q, W', b', cc', by omega, by omega, rfl, rfl, by go_num, Lib.hid (by rw [HN1.out]; exact HW1.out), Lib.hid (by rw [HN1.out]; exact HOQ.out.below (below_drewN (Below.refl _ _) _)), Lib.hid (by rw [HN1.out]; exact HQ.out), Lib.hid (below_drewN HU.out _)⟩
                        case measure => simp [intOf]; omega
                      · have hne : ((j : Int) != (i : Int)) = true := by simp; omega
                        cases hrr : (x'.row == x.row) with
                        | false =>
                          have HN1 : Hid (othTo L G i (j + 1) = othTo L G i j) := Lib.hid (oth_no (by rw [HRX'.out, HRX.out, hrr]; simp))
                          clear hij
                          go_wp2_with fail
                          go_quiet (fail)
                          go_wp2
                          go_roundw
                          case rel => exact ⟨j + 1, q, W', b', cc', by omega, by omega, rfl, rfl, by go_num, Lib.hid (by rw [HN1.out]; exact HW1.out), Lib.hid (by rw [HN1.out]; exact HOQ.out.below (below_drewN (Below.refl _ _) _)), Lib.hid (by rw [HN1.out]; exact HQ.out), Lib.hid (below_drewN HU.out _)⟩
                          case measure => simp [intOf]; omega
                        | true =>
                          have HN1 : Hid (othTo L G i (j + 1) = othTo L G i j ++ [y']) := Lib.hid (by rw [oth_yes (by rw [HRX'.out, HRX.out, hrr]; simp [hij]), HGY'.out])
                          have HM2 : Hid ((othTo L G i j ++ [y']).length = q + 1) := Lib.hid (by rw [List.length_append, HQ.out]; rfl)
                          clear hij
                          obtain ⟨yz, hyz⟩ : ∃ b, (y'.size == 0) = b := ⟨_, rfl⟩
                          rw [hyz] at hqe'
                          obtain ⟨Wn, hWn⟩ : ∃ b, (W' && !yz) = b := ⟨_, rfl⟩
                          have HWV2 := Lib.hid hWn
                          have HW2 : Hid (Wn = (Wh && !holeL (othTo L G i (j + 1)))) := Lib.hid (by rw [HN1.out, hole_snoc, hyz, ← hWn, HW1.out]; cases Wh <;> cases holeL (othTo L G i j) <;> cases yz <;> rfl)
                          clear hWn hyz
                          go_wp2_with fail
                          go_quiet (fail)
                          go_upto_region 24 with (first | (at_builtin; refine wpList_append_txt _ rfl _ _ rfl wC.heap.size _ _ _ [y'] _ (q + 1) rfl rfl rfl HM2.out ((HOQ.out.below (below_drewN (Below.refl _ _) _)).alloc _) (txt_at _ y' _ (by simp)) (by simp; omega) (by omega) ?_; intro b4 c4 w4 hO4 b04 s4))
                          have hyc4 : w4.cell? ⟨gG, oG + j, none⟩ = some (.string y') := by
                            rw [b04.cell (p := ⟨gG, oG + j, none⟩) (by show gG < wC.heap.size; omega), (boxed _ _).cell (p := ⟨gG, oG + j, none⟩) (by simp; omega)]
                            exact ((below_drewN (Below.refl wr.heap.size wr) _).cell (p := ⟨gG, oG + j, none⟩) hgGu).trans hyc'
                          have HO4 := Lib.hid hO4
                          have HB4 : Hid (Below wC.heap.size wC w4) := Lib.hid (((below_drewN HU.out _).alloc (by simp; omega) _).trans b04)
                          clear hO4 b04 s4 hyc'
                          cases Wn with
                          | true =>
                            obtain ⟨hc1, hc2⟩ : W' = true ∧ yz = false := by have := HWV2.out; cases W' <;> cases yz <;> simp at this ⊢
                            subst hc1
                            subst hc2
                            go_wp2
                            go_roundw
                            case rel => exact ⟨j + 1, q + 1, true, b4, c4, by omega, by omega, rfl, rfl, by go_num, HW2, Lib.hid (by rw [HN1.out]; exact HO4.out), Lib.hid (by rw [HN1.out]; exact HM2.out), HB4⟩
                            case measure => simp [intOf]; omega
                          | false =>
                            cases W' with
                            | true =>
                              have hc2 : yz = true := by have := HWV2.out; cases yz <;> simp at this ⊢
                              subst hc2
                              go_wp2
                              go_roundw
                              case rel => exact ⟨j + 1, q + 1, false, b4, c4, by omega, by omega, rfl, rfl, by go_num, HW2, Lib.hid (by rw [HN1.out]; exact HO4.out), Lib.hid (by rw [HN1.out]; exact HM2.out), HB4⟩
                              case measure => simp [intOf]; omega
                            | false =>
                              go_wp2
                              go_roundw
                              case rel => exact ⟨j + 1, q + 1, false, b4, c4, by omega, by omega, rfl, rfl, by go_num, HW2, Lib.hid (by rw [HN1.out]; exact HO4.out), Lib.hid (by rw [HN1.out]; exact HM2.out), HB4⟩
                              case measure => simp [intOf]; omega
                    · obtain rfl : j = m := by omega
                      have hw9 := HV.out.size
                      cases W' with
                      | true =>
                        have hWt : Wh = true ∧ holeL (othTo L G i j) = false := by
                          have := HW1.out
                          cases Wh <;> cases hh : holeL (othTo L G i j) <;> rw [hh] at this <;> simp at this ⊢
                        have HOKL : Hid (okL (othTo L G i j) = true) := Lib.hid (ok_of (n := 64) (fun x hx => by
                          rcases HOSZ.out j x hx with h0 | h1
                          · exact absurd h0 (no_hole hWt.2 hx)
                          · exact h1) HON2.out)
                        have HYP : Hid ((parB (othTo L G i j)).size = 64) := Lib.hid (by
                          rw [parB_size]
                          exact wide_of (fun x hx => by
                            rcases HOSZ.out j x hx with h0 | h1
                            · exact absurd h0 (no_hole hWt.2 hx)
                            · exact h1) HON2.out)
                        have HXO := Lib.hid (refXor_any (othTo L G i j) (.slice b' q cc') wr HOQ.out.txt (by rw [HQ.out]; unfold maxLen; omega) HOKL.out (fun s hs => by rcases HOSZ.out j s hs with h0 | h1 <;> omega))
                        have HC2 : Hid (clT true L G d (i + 1) = clT true L G d i ++ [parB (othTo L G i j)]) := Lib.hid (by rw [HC1.out, (mk_ok HOKL.out).1])
                        generalize parB (othTo L G i j) = yx at HXO HYP HC2
                        have hyx := HYP.out
                        have hqx : yx.toList.isEmpty = false := by rw [empty_txt, hyx]; rfl
                        have HWn : Hid (true = !holeL (clT true L G d (i + 1))) := Lib.hid (by
                          rw [HC2.out, hole_snoc, hyx]
                          have := HWH.out
                          rw [hWt.1] at this
                          simp at this ⊢
                          exact this)
                        have HSn : Hid (S ++ yx = joinB (clT true L G d (i + 1))) := Lib.hid (by rw [HC2.out, ← joinB_snoc, ← HSJ.out hWt.1])
                        have hSy : (S ++ yx).size ≤ 64 * (i + 1) := by rw [appT_size, hyx]; omega
                        go_wp2_with fail
                        refine HXO.out.mono ?_
                        rintro e' w9 ⟨rfl, c9⟩
                        have HB9 := Lib.hid (next (next HV.out HU.out) c9)
                        clear c9
                        go_wp2
                        go_roundw
                        case rel => exact ⟨i + 1, S ++ yx, true, true, by omega, hSy, rfl, rfl, rfl, by go_num, HOW1, HWn, Lib.hid (fun _ => HSn.out), HB9⟩
                        case measure => simp [intOf]; omega
                      | false =>
                        have HWn : Hid (false = !holeL (clT true L G d (i + 1))) := Lib.hid (by
                          rw [HC1.out, hole_snoc]
                          have h1 := HW1.out
                          have h2 := HWH.out
                          cases hh : holeL (othTo L G i j) with
                          | true =>
                            have : (mkB (othTo L G i j)).size = 0 := by
                              unfold holeL at hh
                              rw [List.any_eq_true] at hh
                              obtain ⟨x, hx, hx0⟩ := hh
                              exact mkB_hole hx (by simpa using hx0)
                            rw [this]
                            simp
                          | false =>
                            rw [hh] at h1
                            simp at h1
                            rw [h1] at h2
                            have : holeL (clT true L G d i) = true := by cases hq : holeL (clT true L G d i) <;> rw [hq] at h2 <;> simp at h2 ⊢
                            rw [this]
                            simp)
                        have hSy : (S ++ y).size ≤ 64 * (i + 1) := by rw [appT_size]; omega
                        go_wp2
                        go_roundw
                        case rel => exact ⟨i + 1, S ++ y, false, true, by omega, hSy, rfl, rfl, rfl, by go_num, HOW1, HWn, Lib.hid (fun h => by cases h), Lib.hid (next HV.out HU.out)⟩
                        case measure => simp [intOf]; omega
        · obtain rfl : i = m := by omega
          have HENT : Hid (entR p fst kk L G e = if Ow && Wh then some (if d < fst then -1 else d, S) else none) := Lib.hid (by
            unfold entR
            rw [← HD.out, HML.out, HO0.out, ← HOW.out, ← HWH.out]
            cases hW : Wh with
            | false => simp
            | true => rw [HSJ.out hW])
          have hdw : IntKind.i64.wrap (d + 1) = d + 1 := by rw [IntKind.wrap_i64]; omega
          have HD2 : Hid (d + 1 = fst - kk + ((e + 1 : Nat) : Int)) := Lib.hid (by rw [HD.out]; push_cast; omega)
          have hmeas : (fst + (u : Int) - (d + 1)).toNat < (fst + (u : Int) - d).toNat := by omega
          cases Ow with
          | false =>
            have HNX : Hid (trsTo p fst kk L G (e + 1) = trsTo p fst kk L G e) := Lib.hid (trsTo_none (by rw [HENT.out]; rfl))
            go_wp2
            go_roundw
            case rel => exact ⟨e + 1, nO, b, cc, d + 1, by omega, by omega, rfl, rfl, HD2.out, Lib.hid (by rw [HNX.out]; exact HO.out.below HV.out), Lib.hid (by rw [HNX.out]; exact HON.out), HWV⟩
            case measure => simpa [intOf] using hmeas
          | true =>
            cases Wh with
            | false =>
              have HNX : Hid (trsTo p fst kk L G (e + 1) = trsTo p fst kk L G e) := Lib.hid (trsTo_none (by rw [HENT.out]; rfl))
              go_wp2
              go_roundw
              case rel => exact ⟨e + 1, nO, b, cc, d + 1, by omega, by omega, rfl, rfl, HD2.out, Lib.hid (by rw [HNX.out]; exact HO.out.below HV.out), Lib.hid (by rw [HNX.out]; exact HON.out), HWV⟩
              case measure => simpa [intOf] using hmeas
            | true =>
              cases O0 with
              | true =>
                have hlt' : d < fst := of_decide_eq_true HO0.out
                have HNX : Hid (trsTo p fst kk L G (e + 1) = trsTo p fst kk L G e ++ [(-1, S)]) := Lib.hid (trsTo_some (by rw [HENT.out, if_pos (show (true && true) = true from rfl), if_pos hlt']))
                have hdb : decide (d < fst) = true := HO0.out
                clear hlt'
                have HLE : Hid ((trsTo p fst kk L G e).length ≤ 100000) := Lib.hid (by rw [HON.out]; rcases kk01 with rfl | rfl <;> omega)
                have hpr := new_pair wr (.int .i64 (-1)) (.string S) 56
                go_wp2_with (first | (at_builtin; refine wpList_append_try _ rfl _ _ rfl wA.heap.size _ _ ((-1), S) _ _ rfl rfl ((HO.out.below HV.out).below (boxed _ _)) hpr.1 hpr.2 (by simp; omega) HLE.out ?_; intro v4 w4 hO4 b04 s4; obtain ⟨a4, c4, e4⟩ := hO4.isSl; rw [List.length_append, HON.out] at e4; subst e4))
                go_roundw
                case rel => exact ⟨e + 1, nO + 1, a4, c4, d + 1, by omega, by omega, rfl, rfl, HD2.out, Lib.hid (by rw [HNX.out]; exact hO4), Lib.hid (by rw [HNX.out, List.length_append, HON.out]; rfl), Lib.hid ((grows_alloc HWV.out _).trans b04)⟩
                case measure => simpa [intOf] using hmeas
              | false =>
                have hlt' : ¬ d < fst := of_decide_eq_false HO0.out
                have HNX : Hid (trsTo p fst kk L G (e + 1) = trsTo p fst kk L G e ++ [(d, S)]) := Lib.hid (trsTo_some (by rw [HENT.out, if_pos (show (true && true) = true from rfl), if_neg hlt']))
                have hdb : decide (d < fst) = false := HO0.out
                clear hlt'
                have HLE : Hid ((trsTo p fst kk L G e).length ≤ 100000) := Lib.hid (by rw [HON.out]; rcases kk01 with rfl | rfl <;> omega)
                have hpr := new_pair wr (.int .i64 d) (.string S) 56
                go_wp2_with (first | (at_builtin; refine wpList_append_try _ rfl _ _ rfl wA.heap.size _ _ (d, S) _ _ rfl rfl ((HO.out.below HV.out).below (boxed _ _)) hpr.1 hpr.2 (by simp; omega) HLE.out ?_; intro v4 w4 hO4 b04 s4; obtain ⟨a4, c4, e4⟩ := hO4.isSl; rw [List.length_append, HON.out] at e4; subst e4))
                go_roundw
                case rel => exact ⟨e + 1, nO + 1, a4, c4, d + 1, by omega, by omega, rfl, rfl, HD2.out, Lib.hid (by rw [HNX.out]; exact hO4), Lib.hid (by rw [HNX.out, List.length_append, HON.out]; rfl), Lib.hid ((grows_alloc HWV.out _).trans b04)⟩
                case measure => simpa [intOf] using hmeas
    · have hdl : decide (d < fst + (u : Int)) = false := decide_eq_false (by rcases kk01 with rfl | rfl <;> omega)
      obtain rfl : e = Et := by omega
      go_wp2
      go_ret
      refine ⟨_, rfl, ?_, HWA.out.trans (HW.out.mono HWA.out.size)⟩
      rw [← HFIN.out]
      exact HO.out.lower HWA.out.size
end Go.Proofs.Ytpalgadokdcgnaa
