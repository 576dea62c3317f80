/-
  The document's Data (polderref06): the same columns.
-/
import Derived.Test.YtebejoigdofonaaCu
import Derived.Test.YtebejoigdofonaaCl
namespace Go.Proofs.Ytebejoigdofonaa
open Go.RowKit

theorem refOf_ok (l : List (Int × Int)) (s : Int) (v : Value) (w : World) (h : Meas w v l s) (k t z : Nat) (hB : Blk l s k t z) :
    Calls Try.prog 16 #[v, .agg #[.int .i64 (k : Int), .int .i64 (t : Int)], .int .i64 (z : Int)] w fun e w' => ∃ v', e = .returned v' ∧ OwnC w.heap.size w' v' (colsOf l k t z) ∧ Below w.heap.size w w' := by
  have hk := hB.hk
  obtain ⟨kk, u, hlk, hok⟩ : ∃ (kk : Int) (u : Nat), l[k] = (kk, (u : Int)) ∧ okG (kk, (u : Int)) = true := by
    have hok := hB.right.all k hk
    have hw := okG_wide hok
    exact ⟨l[k].1, l[k].2.toNat, by rw [Int.toNat_of_nonneg (by omega)], by rw [Int.toNat_of_nonneg (by omega)]; exact hok⟩
  have hb := hB.bounds
  have hf := hB.fit
  unfold colsOf
  rw [getD_at hk, hlk]
  rw [hlk] at hf
  rcases okG_cases hok with ⟨rfl, u1, u8⟩ | ⟨rfl, u1, u8⟩
  · have e : colsG (aheadL l k) (0, (u : Int)) t z = mirL (aheadL l k) t u z := by unfold colsG; rw [if_pos rfl]; simp
    rw [e]
    have f1 : (t : Int) + z ≤ s - 16 := by simpa [takesG, gives] using hf
    exact refOf_mir l s v w h hB.right k hk u hlk t (by omega) (by have := hB.right.s1; omega) z hB.z4
  · have e : colsG (aheadL l k) (1, (u : Int)) t z = parTo (aheadL l k) t u z := by unfold colsG; rw [if_neg Int.one_ne_zero]; simp
    rw [e]
    exact refOf_par l s v w h hB.right k hk u hlk t (by omega) z hB.z4

/-- How many of the first j columns are no parities. -/
def datN (L : List C) (j : Nat) : Nat := (datL (L.take j)).length
theorem datN_yes {L : List C} {j : Nat} {x : C} (hx : ∃ h : j < L.length, L[j] = x) (hp : x.par = false) : datN L (j + 1) = datN L j + 1 ∧ ∃ h : datN L j < (datL L).length, (datL L)[datN L j] = x := by
  obtain ⟨h, rfl⟩ := hx
  have e1 : datL (L.take (j + 1)) = datL (L.take j) ++ [L[j]] := by
    rw [List.take_add_one, List.getElem?_eq_getElem h, datL_app]
    simp [datL, hp]
  have e2 : datL L = datL (L.take j) ++ [L[j]] ++ datL (L.drop (j + 1)) := by
    rw [← e1, ← datL_app, List.take_append_drop]
  refine ⟨by unfold datN; rw [e1, List.length_append]; rfl, ?_⟩
  have e3 : (datL L)[datN L j]? = some L[j] := by
    rw [e2, List.append_assoc, List.getElem?_append_right (show (datL (L.take j)).length ≤ datN L j from Nat.le_refl _)]
    simp [datN]
  obtain ⟨h1, h2⟩ := List.getElem?_eq_some_iff.1 e3
  exact ⟨h1, h2⟩
theorem datN_no {L : List C} {j : Nat} {x : C} (hx : ∃ h : j < L.length, L[j] = x) (hp : x.par = true) : datN L (j + 1) = datN L j := by
  obtain ⟨h, rfl⟩ := hx
  unfold datN
  rw [List.take_add_one, List.getElem?_eq_getElem h, datL_app]
  simp [datL, hp]

set_option maxHeartbeats 2000000 in
theorem refData_ok (l : List (Int × Int)) (s : Int) (v : Value) (w : World) (h : Meas w v l s) (k t z : Nat) (hB : Blk l s k t z) (i : Int) (hi : I64 i) (D : List C) (hD : dataOf l k t z i = D) :
    Calls Try.prog 17 #[v, .agg #[.int .i64 (k : Int), .int .i64 (t : Int)], .int .i64 (z : Int), .int .i64 i] w fun e w' => ∃ v', e = .returned v' ∧ OwnC w.heap.size w' v' D ∧ Below w.heap.size w w' := by
  obtain ⟨a, n, c, rfl, hg⟩ := id h
  have hn := hg.1.2.1
  have hn4 : n ≤ 4 := by rw [← hn]; exact hB.right.few
  have hkn : k < n := by rw [← hn]; exact hB.hk
  have K1 := Lib.hid (HeldP.start (k : Int) (t : Int) h)
  obtain ⟨kk, u, hlk, hok⟩ : ∃ (kk : Int) (u : Nat), l[k]'hB.hk = (kk, (u : Int)) ∧ okG (kk, (u : Int)) = true := by
    have hok := hB.right.all k hB.hk
    have hw := okG_wide hok
    exact ⟨(l[k]'hB.hk).1, (l[k]'hB.hk).2.toNat, by rw [Int.toNat_of_nonneg (by omega)], by rw [Int.toNat_of_nonneg (by omega)]; exact hok⟩
  have HLK : Hid (∃ h : k < l.length, l[k] = (kk, (u : Int))) := Lib.hid ⟨hB.hk, hlk⟩
  obtain ⟨i0, i1⟩ := hi
  have z1 := hB.z1
  have z4 := hB.z4
  have HB := Lib.hid hB
  have hcl : colsOf l k t z = colsG (aheadL l k) (kk, (u : Int)) t z := by unfold colsOf; rw [getD_at hB.hk, hlk]
  obtain ⟨L, hL⟩ : ∃ L, colsOf l k t z = L := ⟨_, rfl⟩
  have hpos := hB.laid.pos
  have hfew := hB.laid.few
  unfold dataOf at hD
  rw [hL] at hpos hfew hcl hD
  have HMir : Hid (kk = 0 → datL L = L ∧ ∀ j (h : j < L.length), L[j].row = ((j % z : Nat) : Int)) := Lib.hid (by
    rintro rfl
    have e : L = mirL (aheadL l k) t u z := by rw [hcl]; unfold colsG; rw [if_pos rfl]; simp
    subst e
    exact ⟨datL_mir _ _ _ _ (by omega), fun j h => by rw [mirL_get _ _ z (by omega) u j h]⟩)
  have HPar : Hid (kk = 1 → (datL L).length = z) := Lib.hid (by
    rintro rfl
    have e : L = parTo (aheadL l k) t u z := by rw [hcl]; unfold colsG; rw [if_neg Int.one_ne_zero]; simp
    subst e
    exact datL_par _ _ _ _)
  have HLd := Lib.hid hL
  have HD := Lib.hid hD
  have HOK := Lib.hid hok
  clear h hg hn hlk hok hB hcl hL hD
  go_enter Try.func17, Try.ntmps17
  go_wp2_with fail
  refine (refOf_ok l s _ _ K1.out.h.m k t z HB.out).mono ?_
  rintro e w1 ⟨v1, rfl, ho1, b1⟩
  rw [HLd.out] at ho1
  have K2 := Lib.hid (K1.out.next b1)
  obtain ⟨g, nL, cL, rfl, hnL, hlt, hC⟩ := ho1.v.some hpos
  have HN := Lib.hid hnL
  have HC := Lib.hid hC
  rw [hnL] at hpos hfew
  have hW : w.heap.size ≤ w1.heap.size := K2.out.h.below.size
  clear hnL hC ho1 b1 K1
  go_wp2_with fail
  rcases okG_cases HOK.out with ⟨rfl, uu1, uu8⟩ | ⟨rfl, uu1, uu8⟩
  · obtain ⟨hdl, hrow⟩ := HMir.out rfl
    have HDL := Lib.hid hdl
    have HRW := Lib.hid hrow
    clear hdl hrow
    go_loopw [10, 12] (fun t10 i12 wr => ∃ j : Nat, j ≤ nL ∧ i12 = .int .i64 (j : Int) ∧ Hid (OwnC w1.heap.size wr t10 (heldTo L z i j)) ∧ Hid (Below w1.heap.size w1 wr)) (fun _ i _ => nL - (intOf i).toNat)
    case atStart => exact ⟨0, Nat.zero_le _, rfl, Lib.hid (OwnC.nil _ _), Lib.hid (Below.refl _ _)⟩
    case round =>
      obtain ⟨j, hj, rfl, HO, HW⟩ := hrel
      by_cases hjn : j < nL
      · obtain ⟨x, hx⟩ : ∃ x, L[j]'(by rw [HN.out]; exact hjn) = x := ⟨_, rfl⟩
        have HX : Hid (∃ h : j < L.length, L[j] = x) := Lib.hid ⟨_, hx⟩
        have HXR : Hid (x.row = ((j % z : Nat) : Int)) := Lib.hid (by rw [← hx]; exact HRW.out j _)
        clear hx
        obtain ⟨e0, e1, e2, e3⟩ : IsC wr g (j * 4) x := by obtain ⟨h, e⟩ := HX.out; rw [← e]; exact (HC.out j h).below hlt HW.out
        have K3 := Lib.hid (K2.out.next HW.out)
        have c0 := K3.out.h.c0
        have p0 := K3.out.p0
        obtain ⟨gg, o, rfl, hlg, f0, f1⟩ := K3.out.h.at_ HLK.out.1 HLK.out.2
        dsimp only at f0 f1
        have hsz := HW.out.size
        have HLE : Hid ((heldTo L z i j).length ≤ 100000) := Lib.hid (Nat.le_trans (heldTo_len _ _ _ _) (by omega))
        by_cases hri : x.row = i
        · have hrb : (x.row == i) = true := by simp [hri]
          have HN2 := Lib.hid (heldTo_yes (by rw [← HXR.out]; exact hri) HX.out : heldTo L z i (j + 1) = _)
          clear hri
          go_wp2_with (first | (at_builtin; refine wpList_append_col _ rfl _ _ rfl w1.heap.size _ _ x wr.heap.size 1 rfl rfl (HO.out.below (boxed _ _)) ⟨by simp, by simp, by simp, by simp⟩ (by simp; omega) HLE.out ?_; intro v3 w3 hown3 hb3 hs3))
          go_roundw
          case rel => exact ⟨j + 1, by omega, by go_num, Lib.hid (by rw [HN2.out]; exact hown3), Lib.hid ((grows_alloc HW.out _).trans hb3)⟩
          case measure => simp [intOf]; omega
        · have hrb : (x.row == i) = false := by simp [hri]
          have HN2 := Lib.hid (heldTo_no (by rw [← HXR.out]; exact hri) : heldTo L z i (j + 1) = _)
          clear hri
          go_wp2
          go_roundw
          case rel => exact ⟨j + 1, by omega, by go_num, Lib.hid (by rw [HN2.out]; exact HO.out), HW⟩
          case measure => simp [intOf]; omega
      · obtain rfl : j = nL := by omega
        go_wp2
        go_ret
        refine ⟨_, rfl, ?_, next K2.out.h.below HW.out⟩
        rw [← HD.out, HDL.out, HN.out]
        exact HO.out.lower hW
  · have hdz := HPar.out rfl
    have HDZ := Lib.hid hdz
    clear hdz
    go_loopw [10, 11, 12] (fun t10 i11 i12 wr => ∃ j q : Nat, j ≤ nL ∧ q ≤ z ∧ i12 = .int .i64 (j : Int) ∧ i11 = .int .i64 (q : Int) ∧ Hid (q = datN L j) ∧ Hid (OwnC w1.heap.size wr t10 (heldTo (datL L) z i q)) ∧ Hid (Below w1.heap.size w1 wr)) (fun _ _ i _ => nL - (intOf i).toNat)
    case atStart => exact ⟨0, 0, Nat.zero_le _, Nat.zero_le _, rfl, rfl, Lib.hid rfl, Lib.hid (OwnC.nil _ _), Lib.hid (Below.refl _ _)⟩
    case round =>
      obtain ⟨j, q, hj, hqz, rfl, rfl, HQ, HO, HW⟩ := hrel
      by_cases hjn : j < nL
      · obtain ⟨x, hx⟩ : ∃ x, L[j]'(by rw [HN.out]; exact hjn) = x := ⟨_, rfl⟩
        have HX : Hid (∃ h : j < L.length, L[j] = x) := Lib.hid ⟨_, hx⟩
        clear hx
        obtain ⟨e0, e1, e2, e3⟩ : IsC wr g (j * 4) x := by obtain ⟨h, e⟩ := HX.out; rw [← e]; exact (HC.out j h).below hlt HW.out
        have K3 := Lib.hid (K2.out.next HW.out)
        have c0 := K3.out.h.c0
        have p0 := K3.out.p0
        obtain ⟨gg, o, rfl, hlg, f0, f1⟩ := K3.out.h.at_ HLK.out.1 HLK.out.2
        dsimp only at f0 f1
        have hsz := HW.out.size
        have HLE : Hid ((heldTo (datL L) z i q).length ≤ 100000) := Lib.hid (Nat.le_trans (heldTo_len _ _ _ _) (by omega))
        cases hpx : x.par with
        | true =>
          have HQ2 : Hid (q = datN L (j + 1)) := Lib.hid (by rw [datN_no HX.out hpx]; exact HQ.out)
          rw [hpx] at e2
          clear hpx
          go_wp2
          go_roundw
          case rel => exact ⟨j + 1, q, by omega, hqz, by go_num, rfl, HQ2, HO, HW⟩
          case measure => simp [intOf]; omega
        | false =>
          obtain ⟨hd1, hd2⟩ := datN_yes HX.out hpx
          rw [← HQ.out] at hd1 hd2
          have HQ2 : Hid (q + 1 = datN L (j + 1)) := Lib.hid hd1.symm
          have HQX := Lib.hid hd2
          have hqz' : q < z := by obtain ⟨h, _⟩ := HQX.out; rw [HDZ.out] at h; exact h
          have HPX := Lib.hid hpx
          rw [hpx] at e2
          clear hpx hd1 hd2
          by_cases hqi : (q : Int) = i
          · have hqb : ((q : Int) == i) = true := by simp [hqi]
            have HN2 := Lib.hid (heldTo_yes (by rw [Nat.mod_eq_of_lt hqz']; exact hqi) HQX.out : heldTo (datL L) z i (q + 1) = _)
            clear hqi
            go_wp2_with (first | (at_builtin; refine wpList_append_col _ rfl _ _ rfl w1.heap.size _ _ x wr.heap.size 1 rfl rfl (HO.out.below (boxed _ _)) ⟨by simp, by simp, by simp [HPX.out], by simp⟩ (by simp; omega) HLE.out ?_; intro v3 w3 hown3 hb3 hs3))
            go_roundw
            case rel => exact ⟨j + 1, q + 1, by omega, hqz', by go_num, by go_num, HQ2, Lib.hid (by rw [HN2.out]; exact hown3), Lib.hid ((grows_alloc HW.out _).trans hb3)⟩
            case measure => simp [intOf]; omega
          · have hqb : ((q : Int) == i) = false := by simp [hqi]
            have HN2 := Lib.hid (heldTo_no (by rw [Nat.mod_eq_of_lt hqz']; exact hqi) : heldTo (datL L) z i (q + 1) = _)
            clear hqi
            go_wp2
            go_roundw
            case rel => exact ⟨j + 1, q + 1, by omega, hqz', by go_num, by go_num, HQ2, Lib.hid (by rw [HN2.out]; exact HO.out), HW⟩
            case measure => simp [intOf]; omega
      · obtain rfl : j = nL := by omega
        have HQE : Hid (q = (datL L).length) := Lib.hid (by rw [HQ.out]; unfold datN; rw [List.take_of_length_le (by rw [HN.out]; exact Nat.le_refl _)])
        go_wp2
        go_ret
        refine ⟨_, rfl, ?_, next K2.out.h.below HW.out⟩
        rw [← HD.out, ← HQE.out]
        exact HO.out.lower hW
end Go.Proofs.Ytebejoigdofonaa
