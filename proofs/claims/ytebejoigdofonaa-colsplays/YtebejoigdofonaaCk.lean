/-
  cols.Data, cols.Rows: what they answer.
-/
import Derived.Test.YtebejoigdofonaaCj
import Derived.Test.YtebejoigdofonaaCh
import Derived.Test.YtebejoigdofonaaCo
namespace Go.Proofs.Ytebejoigdofonaa
open Go.RowKit

def datL (L : List C) : List C := L.filter fun x => !x.par
/-- Of the first k columns those that hold sector i of a block of z. -/
def heldTo (M : List C) (z : Nat) (i : Int) : Nat → List C
  | 0 => []
  | k + 1 => if ((k % z : Nat) : Int) = i then heldTo M z i k ++ M[k]?.toList else heldTo M z i k
theorem heldTo_len (M : List C) (z : Nat) (i : Int) (k : Nat) : (heldTo M z i k).length ≤ k := by
  induction k with
  | zero => exact Nat.le_refl _
  | succ k ih =>
    unfold heldTo
    split
    · rw [List.length_append]
      have : M[k]?.toList.length ≤ 1 := by cases M[k]? <;> simp
      omega
    · omega
theorem heldTo_yes {M : List C} {z : Nat} {i : Int} {k : Nat} {x : C} (h : ((k % z : Nat) : Int) = i) (hx : ∃ hk : k < M.length, M[k] = x) : heldTo M z i (k + 1) = heldTo M z i k ++ [x] := by
  obtain ⟨hk, rfl⟩ := hx
  rw [heldTo, if_pos h, List.getElem?_eq_getElem hk]
  rfl
theorem heldTo_no {M : List C} {z : Nat} {i : Int} {k : Nat} (h : ¬ ((k % z : Nat) : Int) = i) : heldTo M z i (k + 1) = heldTo M z i k := by
  rw [heldTo, if_neg h]

/-- Either no parity is among the columns, or the first one is one. -/
def Heads (L : List C) : Prop := (∀ j (h : j < L.length), L[j].par = false) ∨ ∃ h : 0 < L.length, L[0].par = true
theorem delete_any (w : World) (B : Nat) (v : Value) (L : List C) (ho : OwnC B w v L) (hB : B ≤ w.heap.size) (hn : L.length ≤ 100000) (hh : Heads L) :
    Calls Try.prog 26 #[v, .func (.func 27) #[] #[]] w fun e w' => ∃ v', e = .returned v' ∧ ColsV w' v' (datL L) ∧ Below B w w' := by
  rcases hh with hh | ⟨h0, hp⟩
  · obtain ⟨a, c, rfl⟩ := ho.none
    refine (delete_none w L a L.length c ho.v hn hh).mono fun e w' ⟨h1, h2⟩ => ⟨_, h1, ?_, h2.mono hB⟩
    have e : datL L = L := List.filter_eq_self.2 fun x hx => by
      obtain ⟨j, hj, rfl⟩ := List.getElem_of_mem hx
      simp [hh j hj]
    rw [e]
    exact ho.v.next h2
  · obtain ⟨g, c, rfl, hc, hm, hg, hR⟩ := own_row ho h0
    exact (delete_some w L g L.length c hR rfl hn hm h0 hp).mono fun e w' ⟨h1, h2, h3⟩ => ⟨_, h1, ⟨_, _, _, rfl, rfl, fun j hj => ⟨g, rfl, h2.lt, h2.at_ j hj⟩⟩, h3 B hg⟩
theorem heads_mir (f t : Int) (u z : Nat) (hz : 0 < z) : Heads (mirL f t u z) := .inl fun j h => by rw [mirL_get f t z hz u j h]
theorem parTo_head (f : Int) (t u z : Nat) : ∃ h : 0 < (parTo f t u (z + 1)).length, (parTo f t u (z + 1))[0].par = true := by
  induction z with
  | zero => simp [parTo, colP]
  | succ z ih =>
    obtain ⟨h, hp⟩ := ih
    have key : ∀ M, parTo f t u (z + 2) = parTo f t u (z + 1) ++ M → ∃ h : 0 < (parTo f t u (z + 2)).length, (parTo f t u (z + 2))[0].par = true := by
      intro M e
      have h' : 0 < (parTo f t u (z + 2)).length := by rw [e, List.length_append]; omega
      refine ⟨h', ?_⟩
      have e2 : (parTo f t u (z + 2))[0]? = (parTo f t u (z + 1))[0]? := by rw [e, List.getElem?_append_left h]
      rw [List.getElem?_eq_getElem h', List.getElem?_eq_getElem h] at e2
      rw [Option.some.inj e2]
      exact hp
    by_cases hm : (z + 1) % (u - 1) = 0
    · exact key _ (by rw [parTo, if_pos hm, List.append_assoc])
    · exact key _ (by rw [parTo, if_neg hm])
theorem Blk.heads {l : List (Int × Int)} {s : Int} {k t z : Nat} (h : Blk l s k t z) : Heads (colsOf l k t z) := by
  unfold colsOf colsG
  have hz := h.z1
  split
  · exact heads_mir _ _ _ _ (by omega)
  · obtain ⟨z', rfl⟩ : ∃ z', z = z' + 1 := ⟨z - 1, by omega⟩
    exact .inr (parTo_head _ _ _ _)

set_option maxHeartbeats 2000000 in
theorem data_core (l : List (Int × Int)) (s : Int) (a : Option Addr) (n c : Nat) (w : World) (h : Meas w (.agg #[.slice a n c, .int .i64 s]) l s) (k t : Int) (z i : Int) (hi : I64 i) (hz : I64 z) (L : List C) (hL : L.length ≤ 32) (hH : Heads L) (zN : Nat) (hzN : 0 < L.length → z = zN ∧ 0 < zN) (D : List C) (hD : heldTo (datL L) zN i (datL L).length = D)
    (HO : ∀ w1, Below w.heap.size w w1 → Meas w1 (.agg #[.slice a n c, .int .i64 s]) l s → Calls Try.prog 8 #[.agg #[.slice a n c, .int .i64 s], .agg #[.int .i64 k, .int .i64 t], .int .i64 z] w1 fun e w' => ∃ v' er, e = .returned (.tuple #[v', .int .i64 er]) ∧ OwnC w1.heap.size w' v' L ∧ Below w1.heap.size w1 w') :
    Calls Try.prog 13 #[.agg #[.slice a n c, .int .i64 s], .agg #[.int .i64 k, .int .i64 t], .int .i64 z, .int .i64 i] w fun e w' => ∃ v', e = .returned (.tuple #[v', .bool (decide (0 < D.length))]) ∧ OwnC w.heap.size w' v' D ∧ Below w.heap.size w w' := by
  have K1 := Lib.hid (HeldP.start k t h)
  have HC := Lib.hid (HO _ K1.out.h.below K1.out.h.m)
  obtain ⟨i0, i1⟩ := hi
  obtain ⟨z0, z1⟩ := hz
  have HH := Lib.hid hH
  have HZ := Lib.hid hzN
  have HD := Lib.hid hD
  have HLL := Lib.hid hL
  clear h HO hH hzN hD hL
  go_enter Try.func13, Try.ntmps13
  go_wp2_with fail
  refine HC.out.mono ?_
  rintro e w1 ⟨v1, er, rfl, ho1, b1⟩
  have K2 := Lib.hid (K1.out.next b1)
  have HO1 := Lib.hid ho1
  have HB1 := Lib.hid b1
  clear ho1 b1
  go_wp2_with fail
  refine (delete_any w1 _ v1 L HO1.out HB1.out.size (Nat.le_trans HLL.out (by omega)) HH.out).mono ?_
  rintro e w2 ⟨v2, rfl, hv2, b2⟩
  have HBw : Hid (Below w.heap.size w w2) := Lib.hid (K1.out.h.below.trans ((HB1.out.trans b2).mono K1.out.h.below.size))
  have HV := Lib.hid hv2
  have HLM : Hid (∀ j (h : j < (datL L).length), 0 < L.length) := Lib.hid fun j h => by
    have : (datL L).length ≤ L.length := List.length_filter_le _ _
    omega
  have hM32 : (datL L).length ≤ 32 := Nat.le_trans (List.length_filter_le _ _) HLL.out
  clear hv2 b2 HH HC HO1 HB1 K1 K2
  generalize datL L = M at *
  obtain ⟨a2, n2, c2, rfl, hn2, _⟩ := HV.out
  have HN2 := Lib.hid hn2
  rw [hn2] at hM32
  clear hn2
  go_wp2_with fail
  go_loopw [12, 26] (fun t12 i26 wr => ∃ j : Nat, j ≤ n2 ∧ i26 = .int .i64 (j : Int) ∧ Hid (OwnC w2.heap.size wr t12 (heldTo M zN i j)) ∧ Hid (Below w2.heap.size w2 wr)) (fun _ i _ => n2 - (intOf i).toNat)
  case atStart => exact ⟨0, Nat.zero_le _, rfl, Lib.hid (OwnC.nil _ _), Lib.hid (Below.refl _ _)⟩
  case round =>
    obtain ⟨j, hj, rfl, HOj, HBj⟩ := hrel
    by_cases hjn : j < n2
    · have hjM : j < M.length := by rw [HN2.out]; exact hjn
      obtain ⟨rfl, hzp⟩ := HZ.out (HLM.out j hjM)
      obtain ⟨g, n', c', e, _, hlt, hC⟩ := HV.out.some (by omega)
      cases e
      obtain ⟨x, hx⟩ : ∃ x, M[j] = x := ⟨_, rfl⟩
      have HX : Hid (∃ h : j < M.length, M[j] = x) := Lib.hid ⟨hjM, hx⟩
      have hCx := (hC j hjM).below hlt HBj.out
      rw [hx] at hCx
      obtain ⟨e0, e1, e2, e3⟩ := hCx
      obtain ⟨q, hq⟩ : ∃ q : Nat, (j : Int) % (zN : Int) = (q : Int) := ⟨j % zN, by simp⟩
      have HQ : Hid (j % zN = q) := Lib.hid (by have : ((j % zN : Nat) : Int) = (q : Int) := by rw [← hq]; simp
                                                omega)
      have hq8 : (q : Int) < zN := by rw [← hq]; exact Int.emod_lt_of_pos _ (by omega)
      have hz0 : ((zN : Int) == 0) = false := by simp; omega
      have hsz := HBj.out.size
      have HLE : Hid ((heldTo M zN i j).length ≤ 100000) := Lib.hid (Nat.le_trans (heldTo_len M zN i j) (by omega))
      clear hC hx hjM
      by_cases hqi : (q : Int) = i
      · have hqb : ((q : Int) == i) = true := by simp [hqi]
        have HN := Lib.hid (heldTo_yes (by rw [HQ.out]; exact hqi) HX.out : heldTo M zN i (j + 1) = heldTo M zN i j ++ [x])
        clear hqi
        go_wp2_with (first | (at_builtin; refine wpList_append_col _ rfl _ _ rfl w2.heap.size _ _ x (wr.heap.size + 1) 1 rfl rfl ((HOj.out.below (boxed _ _)).below (boxed _ _)) ⟨by simp, by simp, by simp, by simp⟩ (by simp; omega) HLE.out ?_; intro v3 w3 hown3 hb3 hs3))
        go_roundw
        case rel =>
          refine ⟨j + 1, by omega, by go_num, Lib.hid (by rw [HN.out]; exact hown3), Lib.hid ?_⟩
          exact (grows_alloc (grows_alloc HBj.out _) _).trans hb3
        case measure => simp [intOf]; omega
      · have hqb : ((q : Int) == i) = false := by simp [hqi]
        have HN := Lib.hid (heldTo_no (by rw [HQ.out]; exact hqi) : heldTo M zN i (j + 1) = heldTo M zN i j)
        clear hqi
        go_wp2
        go_roundw
        case rel => exact ⟨j + 1, by omega, by go_num, Lib.hid (by rw [HN.out]; exact HOj.out.below (boxed _ _)), Lib.hid (grows_alloc HBj.out _)⟩
        case measure => simp [intOf]; omega
    · obtain rfl : j = n2 := by omega
      have HDj : Hid (heldTo M zN i j = D) := Lib.hid (by rw [← HN2.out]; exact HD.out)
      have hoD := HOj.out
      rw [HDj.out] at hoD
      obtain ⟨a3, c3, rfl⟩ := hoD.none
      have HOD := Lib.hid hoD
      have HLD : Hid (D.length ≤ 32) := Lib.hid (by rw [← HDj.out]; exact Nat.le_trans (heldTo_len _ _ _ _) hM32)
      generalize hm : D.length = m at *
      have HM := Lib.hid hm
      have hm32 : m ≤ 32 := HLD.out
      clear hm hoD
      go_wp2
      go_ret2
      exact ⟨_, by rw [HM.out]; simp, HOD.out.lower HBw.out.size, next HBw.out HBj.out⟩
/-- The columns that hold sector i of a block. -/
def dataOf (l : List (Int × Int)) (k t z : Nat) (i : Int) : List C := heldTo (datL (colsOf l k t z)) z i (datL (colsOf l k t z)).length
theorem data_ok (l : List (Int × Int)) (s : Int) (v : Value) (w : World) (h : Meas w v l s) (k t z : Nat) (hB : Blk l s k t z) (i : Int) (hi : I64 i) (D : List C) (hD : dataOf l k t z i = D) :
    Calls Try.prog 13 #[v, .agg #[.int .i64 (k : Int), .int .i64 (t : Int)], .int .i64 (z : Int), .int .i64 i] w fun e w' => ∃ v', e = .returned (.tuple #[v', .bool (decide (0 < D.length))]) ∧ OwnC w.heap.size w' v' D ∧ Below w.heap.size w w' := by
  obtain ⟨a, n, c, rfl, hg⟩ := id h
  have hz1 := hB.z1
  have hz4 := hB.z4
  exact data_core l s a n c w h k t z i hi ⟨by omega, by omega⟩ (colsOf l k t z) hB.laid.few hB.heads z (fun _ => ⟨rfl, by omega⟩) D hD fun w1 _ hm => (of_ok l s _ w1 hm k t z hB).mono fun e w' ⟨v', h1, h2, h3⟩ => ⟨v', 0, h1, h2, h3⟩
theorem data_bad (l : List (Int × Int)) (s : Int) (v : Value) (w : World) (h : Meas w v l s) (k t z : Int) (hk : I64 k) (ht : I64 t) (hz : I64 z) (hno : mayL l s k t z = false) (i : Int) (hi : I64 i) :
    Calls Try.prog 13 #[v, .agg #[.int .i64 k, .int .i64 t], .int .i64 z, .int .i64 i] w fun e w' => ∃ v', e = .returned (.tuple #[v', .bool false]) ∧ OwnC w.heap.size w' v' [] ∧ Below w.heap.size w w' := by
  obtain ⟨a, n, c, rfl, hg⟩ := id h
  exact data_core l s a n c w h k t z i hi hz [] (by simp) (.inl fun j h => absurd h (Nat.not_lt_zero _)) 1 (fun h => absurd h (Nat.not_lt_zero _)) [] rfl fun w1 _ hm => (of_bad l s _ w1 hm k t z hk ht hz hno).mono fun e w' ⟨h1, h3⟩ => ⟨_, 1, h1, OwnC.nil _ _, h3⟩

theorem rows_nil (w : World) : Calls Try.prog 12 #[.slice none 0 0] w fun e w' => e = .returned (.int .i64 0) ∧ Below w.heap.size w w' := by
  go_enter Try.func12, Try.ntmps12
  go_wp2
  go_ret
  exact ⟨rfl, Below.refl _ _⟩
set_option maxHeartbeats 1000000 in
theorem rows_any (w : World) (L : List C) (g n c : Nat) (hg : g < w.heap.size) (hl : L.length = n) (hn : n ≤ 100000) (hC : ∀ j (h : j < L.length), IsC w g (j * 4) L[j]) (R : Nat) (hR : R ≤ 1000) (hr : ∀ j (h : j < L.length), 0 ≤ L[j].row ∧ L[j].row < R) (hm : ∃ j, ∃ h : j < L.length, L[j].row = (R : Int) - 1) :
    Calls Try.prog 12 #[.slice (some ⟨g, 0, none⟩) n c] w fun e w' => e = .returned (.int .i64 (R : Int)) ∧ Below w.heap.size w w' := by
  obtain ⟨jm, hjm, hjr⟩ := hm
  have hn0 : 0 < n := by omega
  have hnz : ((n : Int) == 0) = false := by simp; omega
  have k3 := (hC 0 (by omega)).c3
  obtain ⟨r0, hr0⟩ : ∃ r, (L[0]'(by omega)).row = r := ⟨_, rfl⟩
  have hrb := hr 0 (by omega)
  rw [hr0] at k3 hrb
  obtain ⟨rb0, rb1⟩ := hrb
  simp only [Nat.zero_mul, Nat.zero_add] at k3
  have HC := Lib.hid hC
  have HL := Lib.hid hl
  have HRR := Lib.hid hr
  have HJ : Hid (∃ h : jm < L.length, L[jm].row = (R : Int) - 1) := Lib.hid ⟨hjm, hjr⟩
  have HR0 : Hid (∃ h : 0 < L.length, L[0].row = r0) := Lib.hid ⟨_, hr0⟩
  clear hC hl hr hjr hjm hr0
  go_enter Try.func12, Try.ntmps12
  go_wp2_with fail
  go_loopw [3, 15] (fun i3 i15 wr => ∃ (j : Nat) (m : Int), j ≤ n ∧ 0 ≤ m ∧ m < R ∧ i3 = .int .i64 m ∧ i15 = .int .i64 (j : Int) ∧ Hid (∀ q (h : q < L.length), q < j → L[q].row ≤ m) ∧ Hid (Below w.heap.size w wr)) (fun _ i _ => n - (intOf i).toNat)
  case atStart => exact ⟨0, r0, Nat.zero_le _, rb0, rb1, rfl, rfl, Lib.hid fun q _ h => absurd h (Nat.not_lt_zero _), Lib.hid (Below.refl _ _)⟩
  case round =>
    obtain ⟨j, m, hj, m0, m1, rfl, rfl, HM, HW⟩ := hrel
    by_cases hjn : j < n
    · have hjl : j < L.length := by rw [HL.out]; exact hjn
      obtain ⟨x, hx⟩ : ∃ x, L[j] = x := ⟨_, rfl⟩
      have hCx := (HC.out j hjl).below hg HW.out
      have hrx := HRR.out j hjl
      rw [hx] at hCx hrx
      obtain ⟨e0, e1, e2, e3⟩ := hCx
      obtain ⟨x0, x1⟩ := hrx
      have HX : Hid (∃ h : j < L.length, L[j] = x) := Lib.hid ⟨hjl, hx⟩
      clear hx hjl
      go_wp2
      go_roundw
      case rel =>
        refine ⟨j + 1, if m < x.row then x.row else m, by omega, by split <;> omega, by split <;> omega, rfl, by go_num, Lib.hid fun q h hq => ?_, Lib.hid (grows_alloc HW.out _)⟩
        by_cases e : q = j
        · subst e
          obtain ⟨_, e⟩ := HX.out
          rw [e]
          split <;> omega
        · have := HM.out q h (by omega)
          split <;> omega
      case measure => simp [intOf]; omega
    · obtain rfl : j = n := by omega
      have hmr : m = (R : Int) - 1 := by
        obtain ⟨h, e⟩ := HJ.out
        have := HM.out jm h (by rw [← HL.out]; exact h)
        omega
      have HMR := Lib.hid hmr
      clear hmr
      go_wp2
      go_ret
      exact ⟨by rw [show (R : Int) = m + 1 by have := HMR.out; omega]; rfl, HW.out⟩
end Go.Proofs.Ytebejoigdofonaa
