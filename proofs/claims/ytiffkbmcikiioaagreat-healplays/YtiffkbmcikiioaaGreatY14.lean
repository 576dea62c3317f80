/-
  cols.Data, cols.Rows: what they answer.
  The data columns of a block's sectors: how many there are.
  The rows of a block's columns.
-/
import Derived.Test.YtiffkbmcikiioaaGreatY12
import Derived.Test.YtiffkbmcikiioaaGreatY13
import Derived.Test.YtiffkbmcikiioaaGreatY11

/- cols.Data, cols.Rows: what they answer. -/
namespace Go.Proofs.YtiffkbmcikiioaaGreat
set_option maxRecDepth 100000
open Go.RowKit

def datL (L : List C) : List C := L.filter fun x => !x.par
/-- Of the first k columns those that hold sector i of a block of z. -/
def heldTo (M : List C) (z : Nat) (i : Int) : Nat → List C
  | 0 => []
  | k + 1 => if ((k % z : Nat) : Int) = i then heldTo M z i k ++ M[k]?.toList else heldTo M z i k
theorem heldTo_len (M : List C) (z : Nat) (i : Int) (k : Nat) : (heldTo M z i k).length ≤ k := by
  induction k with
  | zero => exact Nat.le_refl _
  | succ k ih =>
    unfold heldTo
    split
    · rw [List.length_append]
      have : M[k]?.toList.length ≤ 1 := by cases M[k]? <;> simp
      omega
    · omega
theorem heldTo_yes {M : List C} {z : Nat} {i : Int} {k : Nat} {x : C} (h : ((k % z : Nat) : Int) = i) (hx : ∃ hk : k < M.length, M[k] = x) : heldTo M z i (k + 1) = heldTo M z i k ++ [x] := by
  obtain ⟨hk, rfl⟩ := hx
  rw [heldTo, if_pos h, List.getElem?_eq_getElem hk]
  rfl
theorem heldTo_no {M : List C} {z : Nat} {i : Int} {k : Nat} (h : ¬ ((k % z : Nat) : Int) = i) : heldTo M z i (k + 1) = heldTo M z i k := by
  rw [heldTo, if_neg h]

/-- Either no parity is among the columns, or the first one is one. -/
def Heads (L : List C) : Prop := (∀ j (h : j < L.length), L[j].par = false) ∨ ∃ h : 0 < L.length, L[0].par = true
theorem delete_any (w : World) (B : Nat) (v : Value) (L : List C) (ho : OwnC B w v L) (hB : B ≤ w.heap.size) (hn : L.length ≤ 100000) (hh : Heads L) :
    Calls Tryz.prog 93 #[v, .func (.func 95) #[] #[]] w fun e w' => ∃ v', e = .returned v' ∧ ColsV w' v' (datL L) ∧ Below B w w' := by
  rcases hh with hh | ⟨h0, hp⟩
  · obtain ⟨a, c, rfl⟩ := ho.none
    refine (delete_none w L a L.length c ho.v hn hh).mono fun e w' ⟨h1, h2⟩ => ⟨_, h1, ?_, h2.mono hB⟩
    have e : datL L = L := List.filter_eq_self.2 fun x hx => by
      obtain ⟨j, hj, rfl⟩ := List.getElem_of_mem hx
      simp [hh j hj]
    rw [e]
    exact ho.v.next h2
  · obtain ⟨g, c, rfl, hc, hm, hg, hR⟩ := own_row ho h0
    exact (delete_some w L g L.length c hR rfl hn hm h0 hp).mono fun e w' ⟨h1, h2, h3⟩ => ⟨_, h1, ⟨_, _, _, rfl, rfl, fun j hj => ⟨g, rfl, h2.lt, h2.at_ j hj⟩⟩, h3 B hg⟩
theorem heads_mir (f t : Int) (u z : Nat) (hz : 0 < z) : Heads (mirL f t u z) := .inl fun j h => by rw [mirL_get f t z hz u j h]
theorem parTo_head (f : Int) (t u z : Nat) : ∃ h : 0 < (parTo f t u (z + 1)).length, (parTo f t u (z + 1))[0].par = true := by
  induction z with
  | zero => simp [parTo, colP]
  | succ z ih =>
    obtain ⟨h, hp⟩ := ih
    have key : ∀ M, parTo f t u (z + 2) = parTo f t u (z + 1) ++ M → ∃ h : 0 < (parTo f t u (z + 2)).length, (parTo f t u (z + 2))[0].par = true := by
      intro M e
      have h' : 0 < (parTo f t u (z + 2)).length := by rw [e, List.length_append]; omega
      refine ⟨h', ?_⟩
      have e2 : (parTo f t u (z + 2))[0]? = (parTo f t u (z + 1))[0]? := by rw [e, List.getElem?_append_left h]
      rw [List.getElem?_eq_getElem h', List.getElem?_eq_getElem h] at e2
      rw [Option.some.inj e2]
      exact hp
    by_cases hm : (z + 1) % (u - 1) = 0
    · exact key _ (by rw [parTo, if_pos hm, List.append_assoc])
    · exact key _ (by rw [parTo, if_neg hm])
theorem Blk.heads {l : List (Int × Int)} {s : Int} {k t z : Nat} (h : Blk l s k t z) : Heads (colsOf l k t z) := by
  unfold colsOf colsG
  have hz := h.z1
  split
  · exact heads_mir _ _ _ _ (by omega)
  · obtain ⟨z', rfl⟩ : ∃ z', z = z' + 1 := ⟨z - 1, by omega⟩
    exact .inr (parTo_head _ _ _ _)

/-- The columns that hold sector i of a block. -/
def dataOf (l : List (Int × Int)) (k t z : Nat) (i : Int) : List C := heldTo (datL (colsOf l k t z)) z i (datL (colsOf l k t z)).length
theorem rows_nil (w : World) : Calls Tryz.prog 122 #[.slice none 0 0] w fun e w' => e = .returned (.int .i64 0) ∧ Below w.heap.size w w' := by
  go_enter Tryz.func122, Tryz.ntmps122
  go_wp2
  go_ret
  exact ⟨rfl, Below.refl _ _⟩
set_option maxHeartbeats 1000000 in
theorem rows_any (w : World) (L : List C) (g n c : Nat) (hg : g < w.heap.size) (hl : L.length = n) (hn : n ≤ 100000) (hC : ∀ j (h : j < L.length), IsC w g (j * 4) L[j]) (R : Nat) (hR : R ≤ 1000) (hr : ∀ j (h : j < L.length), 0 ≤ L[j].row ∧ L[j].row < R) (hm : ∃ j, ∃ h : j < L.length, L[j].row = (R : Int) - 1) :
    Calls Tryz.prog 122 #[.slice (some ⟨g, 0, none⟩) n c] w fun e w' => e = .returned (.int .i64 (R : Int)) ∧ Below w.heap.size w w' := by
  obtain ⟨jm, hjm, hjr⟩ := hm
  have hn0 : 0 < n := by omega
  have hnz : ((n : Int) == 0) = false := by simp; omega
  have k3 := (hC 0 (by omega)).c3
  obtain ⟨r0, hr0⟩ : ∃ r, (L[0]'(by omega)).row = r := ⟨_, rfl⟩
  have hrb := hr 0 (by omega)
  rw [hr0] at k3 hrb
  obtain ⟨rb0, rb1⟩ := hrb
  simp only [Nat.zero_mul, Nat.zero_add] at k3
  have HC := Lib.hid hC
  have HL := Lib.hid hl
  have HRR := Lib.hid hr
  have HJ : Hid (∃ h : jm < L.length, L[jm].row = (R : Int) - 1) := Lib.hid ⟨hjm, hjr⟩
  have HR0 : Hid (∃ h : 0 < L.length, L[0].row = r0) := Lib.hid ⟨_, hr0⟩
  clear hC hl hr hjr hjm hr0
  go_enter Tryz.func122, Tryz.ntmps122
  go_wp2_with fail
  go_loopw [3, 15] (fun i3 i15 wr => ∃ (j : Nat) (m : Int), j ≤ n ∧ 0 ≤ m ∧ m < R ∧ i3 = .int .i64 m ∧ i15 = .int .i64 (j : Int) ∧ Hid (∀ q (h : q < L.length), q < j → L[q].row ≤ m) ∧ Hid (Below w.heap.size w wr)) (fun _ i _ => n - (intOf i).toNat)
  case atStart => exact ⟨0, r0, Nat.zero_le _, rb0, rb1, rfl, rfl, Lib.hid fun q _ h => absurd h (Nat.not_lt_zero _), Lib.hid (Below.refl _ _)⟩
  case round =>
    obtain ⟨j, m, hj, m0, m1, rfl, rfl, HM, HW⟩ := hrel
    by_cases hjn : j < n
    · have hjl : j < L.length := by rw [HL.out]; exact hjn
      obtain ⟨x, hx⟩ : ∃ x, L[j] = x := ⟨_, rfl⟩
      have hCx := (HC.out j hjl).below hg HW.out
      have hrx := HRR.out j hjl
      rw [hx] at hCx hrx
      obtain ⟨e0, e1, e2, e3⟩ := hCx
      obtain ⟨x0, x1⟩ := hrx
      have HX : Hid (∃ h : j < L.length, L[j] = x) := Lib.hid ⟨hjl, hx⟩
      clear hx hjl
      go_wp2
      go_roundw
      case rel =>
        refine ⟨j + 1, if m < x.row then x.row else m, by omega, by split <;> omega, by split <;> omega, (by first | rfl | (congr 1; split <;> omega)), by go_num, Lib.hid fun q h hq => ?_, Lib.hid (grows_alloc HW.out _)⟩
        by_cases e : q = j
        · subst e
          obtain ⟨_, e⟩ := HX.out
          rw [e]
          split <;> omega
        · have := HM.out q h (by omega)
          split <;> omega
      case measure => simp [intOf]; omega
    · obtain rfl : j = n := by omega
      have hmr : m = (R : Int) - 1 := by
        obtain ⟨h, e⟩ := HJ.out
        have := HM.out jm h (by rw [← HL.out]; exact h)
        omega
      have HMR := Lib.hid hmr
      clear hmr
      go_wp2
      go_ret
      exact ⟨by rw [show (R : Int) = m + 1 by have := HMR.out; omega]; rfl, HW.out⟩
end Go.Proofs.YtiffkbmcikiioaaGreat

/- The data columns of a block's sectors: how many there are. -/
namespace Go.Proofs.YtiffkbmcikiioaaGreat
set_option maxRecDepth 100000
open Go.RowKit

theorem heldTo_mem {M : List C} {z : Nat} {i : Int} {k : Nat} {x : C} (h : x ∈ heldTo M z i k) : x ∈ M := by
  induction k with
  | zero => simp [heldTo] at h
  | succ k ih =>
    unfold heldTo at h
    split at h
    · rcases List.mem_append.1 h with h | h
      · exact ih h
      · rw [Option.mem_toList] at h
        exact List.mem_of_getElem? h
    · exact ih h
/-- How many columns hold one of the first I sectors. -/
def cnt (M : List C) (z n : Nat) : Nat → Nat
  | 0 => 0
  | I + 1 => cnt M z n I + (heldTo M z (I : Int) n).length
theorem cnt_succ (M : List C) (z n : Nat) (hn : n < M.length) (I : Nat) : cnt M z (n + 1) I = cnt M z n I + (if n % z < I then 1 else 0) := by
  induction I with
  | zero => simp [cnt]
  | succ I ih =>
    rw [cnt, cnt, ih]
    by_cases e : n % z = I
    · rw [heldTo_yes (by rw [e]) ⟨hn, rfl⟩, List.length_append, if_neg (by omega), if_pos (by omega)]
      simp
      omega
    · rw [heldTo_no (by omega)]
      by_cases h : n % z < I
      · rw [if_pos h, if_pos (by omega)]; omega
      · rw [if_neg h, if_neg (by omega)]; omega
theorem cnt_all (M : List C) (z : Nat) (hz : 0 < z) (n : Nat) (hn : n ≤ M.length) : cnt M z n z = n := by
  induction n with
  | zero =>
    have : ∀ I, cnt M z 0 I = 0 := fun I => by
      induction I with
      | zero => rfl
      | succ I ih => rw [cnt, ih]; rfl
    exact this z
  | succ n ih => rw [cnt_succ M z n hn z, ih (by omega), if_pos (Nat.mod_lt _ hz)]
theorem cnt_mono (M : List C) (z n I J : Nat) (h : I ≤ J) : cnt M z n I ≤ cnt M z n J := by
  induction J with
  | zero => obtain rfl : I = 0 := by omega
            exact Nat.le_refl _
  | succ J ih =>
    by_cases e : I = J + 1
    · subst e; exact Nat.le_refl _
    · have := ih (by omega)
      rw [cnt]; omega
theorem heldTo_grow (M : List C) (z : Nat) (i : Int) (k n : Nat) (h : k ≤ n) : (heldTo M z i k).length ≤ (heldTo M z i n).length := by
  induction n with
  | zero => obtain rfl : k = 0 := by omega
            exact Nat.le_refl _
  | succ n ih =>
    by_cases e : k = n + 1
    · subst e; exact Nat.le_refl _
    · have := ih (by omega)
      have h2 : (heldTo M z i n).length ≤ (heldTo M z i (n + 1)).length := by
        conv => rhs; rw [heldTo]
        split
        · rw [List.length_append]; omega
        · omega
      omega
theorem held_some (M : List C) (z i : Nat) (hi : i < z) (hM : z ≤ M.length) : 0 < (heldTo M z (i : Int) M.length).length := by
  have h1 : heldTo M z (i : Int) (i + 1) = heldTo M z (i : Int) i ++ [M[i]'(by omega)] := heldTo_yes (by rw [Nat.mod_eq_of_lt hi]) ⟨by omega, rfl⟩
  have h2 := heldTo_grow M z (i : Int) (i + 1) M.length (by omega)
  rw [h1, List.length_append] at h2
  simp at h2
  omega
theorem held_none (M : List C) (z : Nat) (hz : 0 < z) (i : Int) (hi : i < 0 ∨ (z : Int) ≤ i) (n : Nat) : heldTo M z i n = [] := by
  induction n with
  | zero => rfl
  | succ n ih =>
    rw [heldTo_no (by have := Nat.mod_lt n hz; omega), ih]

theorem datL_app (a b : List C) : datL (a ++ b) = datL a ++ datL b := List.filter_append ..
theorem datL_mir (f t : Int) (u z : Nat) (hz : 0 < z) : datL (mirL f t u z) = mirL f t u z := List.filter_eq_self.2 fun x hx => by
  obtain ⟨j, hj, rfl⟩ := List.getElem_of_mem hx
  rw [mirL_get f t z hz u j hj]
  rfl
theorem datL_par (f : Int) (t u z : Nat) : (datL (parTo f t u z)).length = z := by
  induction z with
  | zero => rfl
  | succ k ih =>
    unfold parTo
    split
    · rw [datL_app, datL_app, List.length_append, List.length_append, ih]; rfl
    · rw [datL_app, List.length_append, ih]; rfl
theorem Blk.datas {l : List (Int × Int)} {s : Int} {k t z : Nat} (h : Blk l s k t z) : z ≤ (datL (colsOf l k t z)).length := by
  have hk := h.hk
  obtain ⟨kk, u, hlk, hok⟩ : ∃ kk u, l[k] = (kk, u) ∧ okG (kk, u) = true := ⟨l[k].1, l[k].2, rfl, h.right.all k hk⟩
  unfold colsOf
  rw [getD_at hk, hlk]
  unfold colsG
  split
  · rw [datL_mir _ _ _ _ h.z1, mirL_len]
    have h1 : 1 ≤ u.toNat := by have := okG_wide hok; dsimp only at this; omega
    have h2 : 1 * z ≤ u.toNat * z := Nat.mul_le_mul_right z h1
    show z ≤ u.toNat * z
    omega
  · rw [datL_par]; exact Nat.le_refl _
theorem dats_pars (L : List C) : (datL L).length + L.countP (fun x => x.par) = L.length := by
  induction L with
  | nil => rfl
  | cons x r ih =>
    unfold datL at ih ⊢
    cases h : x.par with
    | true => simp [h]; omega
    | false => simp [h]; omega
end Go.Proofs.YtiffkbmcikiioaaGreat

/- The rows of a block's columns. -/
namespace Go.Proofs.YtiffkbmcikiioaaGreat
set_option maxRecDepth 100000
open Go.RowKit

/-- Row and parity of a column. -/
def rp (c : C) : Int × Bool := (c.row, c.par)
theorem parTo_shape (f : Int) (t u z : Nat) : (parTo f t u z).map rp = (parTo 0 0 u z).map rp := by
  induction z with
  | zero => rfl
  | succ k ih => simp only [parTo]; split <;> simp [ih, rp, colP]
def rowsN (u z : Nat) : Nat := (z - 1) / (u - 1) + 1
theorem par_rows : ∀ u : Nat, u < 9 → 3 ≤ u → ∀ z : Nat, z < 5 → 1 ≤ z →
    (∀ x ∈ (parTo 0 0 u z).map rp, 0 ≤ x.1 ∧ x.1 < (rowsN u z : Int)) ∧ (∃ x ∈ (parTo 0 0 u z).map rp, x.1 = (rowsN u z : Int) - 1) ∧
    (∀ r : Nat, r < rowsN u z → ((parTo 0 0 u z).map rp).countP (fun x => decide (x.1 = (r : Int)) && x.2) = 1) ∧
    (∀ i : Nat, i < 6 → ∀ j : Nat, j < 6 → i < j → ∀ x ∈ ((parTo 0 0 u z).map rp)[i]?, ∀ y ∈ ((parTo 0 0 u z).map rp)[j]?, x.1 = y.1 → j < i + u) ∧ rowsN u z ≤ 4 := by
  intro u h9 h3 z h5 h1
  rcases (show u = 3 ∨ u = 4 ∨ u = 5 ∨ u = 6 ∨ u = 7 ∨ u = 8 by omega) with rfl | rfl | rfl | rfl | rfl | rfl <;> rcases (show z = 1 ∨ z = 2 ∨ z = 3 ∨ z = 4 by omega) with rfl | rfl | rfl | rfl <;> decide

/-- What is known of a block's rows. -/
structure Rowed (kk : Int) (u z : Nat) (L : List C) (R : Nat) : Prop where
  few : R ≤ 4
  in_ : ∀ j (h : j < L.length), 0 ≤ L[j].row ∧ L[j].row < R
  last : ∃ j, ∃ h : j < L.length, L[j].row = (R : Int) - 1
  pars : ∀ r : Nat, r < R → (L.countP (fun x => decide (x.row = (r : Int)) && x.par) : Int) = kk
  devs : ∀ i j (hi : i < L.length) (hj : j < L.length), i < j → L[i].row = L[j].row → L[i].dev ≠ L[j].dev
  datas : (datL L).length = if kk = 0 then z * u else z
  mir : kk = 0 → R = z
theorem rowed (f : Int) (kk : Int) (u t z : Nat) (hok : okG (kk, (u : Int)) = true) (z1 : 1 ≤ z) (z4 : z ≤ 4) : ∃ R, Rowed kk u z (colsG f (kk, (u : Int)) t z) R := by
  rcases okG_cases hok with ⟨rfl, u1, u8⟩ | ⟨rfl, u1, u8⟩
  · have e : colsG f (0, (u : Int)) t z = mirL f t u z := by unfold colsG; rw [if_pos rfl]; simp
    rw [e]
    have hl := mirL_len f t u z
    have hzp : 0 < z := by omega
    have hg := mirL_get f t z hzp u
    have hmod := fun j => Nat.mod_lt j hzp
    have h1 : 1 * z ≤ u * z := Nat.mul_le_mul_right z (by omega)
    refine ⟨z, z4, fun j h => ?_, ⟨z - 1, by omega, ?_⟩, fun r hr => ?_, fun i j hi hj hij => ?_, ?_, fun _ => rfl⟩
    · rw [hg j h]; dsimp only; have := hmod j; omega
    · rw [hg (z - 1) (by omega)]; dsimp only; rw [Nat.mod_eq_of_lt (by omega)]; omega
    · have h0 : (mirL f t u z).countP (fun x => decide (x.row = (r : Int)) && x.par) = 0 := by
        rw [List.countP_eq_zero]
        intro x hx
        obtain ⟨j, hj, rfl⟩ := List.getElem_of_mem hx
        rw [hg j hj]
        simp
      rw [h0]; rfl
    · rw [hg i hi, hg j hj]
      dsimp only
      intro e1 e2
      have e3 : i % z = j % z := by omega
      have e4 : i / z = j / z := by omega
      have h2 := Nat.div_add_mod i z
      have h3 := Nat.div_add_mod j z
      rw [e3, e4] at h2
      omega
    · rw [datL_mir _ _ _ _ hzp, hl, if_pos rfl, Nat.mul_comm]
  · have e : colsG f (1, (u : Int)) t z = parTo f t u z := by unfold colsG; rw [if_neg Int.one_ne_zero]; simp
    rw [e]
    obtain ⟨p1, p2, p3, p4, p5⟩ := par_rows u (by omega) (by omega) z (by omega) z1
    rw [← parTo_shape f t u z] at p1 p2 p3 p4
    have hl6 : (parTo f t u z).length ≤ 6 := by rw [parTo_len0]; exact (par_fits u (by omega) (by omega) z (by omega) z1).2.2
    refine ⟨rowsN u z, p5, fun j h => ?_, ?_, fun r hr => ?_, fun i j hi hj hij => ?_, ?_, fun h => absurd h Int.one_ne_zero⟩
    · exact p1 (rp (parTo f t u z)[j]) (List.mem_map.2 ⟨_, List.getElem_mem h, rfl⟩)
    · obtain ⟨x, hx, hr⟩ := p2
      obtain ⟨c, hc, rfl⟩ := List.mem_map.1 hx
      obtain ⟨j, hj, rfl⟩ := List.getElem_of_mem hc
      exact ⟨j, hj, hr⟩
    · have h1 := p3 r hr
      rw [List.countP_map] at h1
      have h2 : (parTo f t u z).countP (fun x => decide (x.row = (r : Int)) && x.par) = 1 := h1
      rw [h2]; rfl
    · intro er ed
      have h1 := p4 i (by omega) j (by omega) hij (rp (parTo f t u z)[i]) (by rw [List.getElem?_map, List.getElem?_eq_getElem hi]; rfl) (rp (parTo f t u z)[j]) (by rw [List.getElem?_map, List.getElem?_eq_getElem hj]; rfl) er
      obtain ⟨r1, b1, e1⟩ := parTo_get f t u z i hi
      obtain ⟨r2, b2, e2⟩ := parTo_get f t u z j hj
      rw [e1, e2] at ed
      have ed' : f + (((t + i) % u : Nat) : Int) = f + (((t + j) % u : Nat) : Int) := ed
      have e3 : (t + i) % u = (t + j) % u := by omega
      have h2 := Nat.div_add_mod (t + i) u
      have h3 := Nat.div_add_mod (t + j) u
      rw [e3] at h2
      have h4 : u * ((t + j) / u) = u * ((t + i) / u) + (j - i) := by omega
      rcases Nat.lt_or_ge ((t + i) / u) ((t + j) / u) with h5 | h5
      · have h6 : u * ((t + i) / u + 1) ≤ u * ((t + j) / u) := Nat.mul_le_mul_left u h5
        rw [Nat.mul_add, Nat.mul_one] at h6
        omega
      · have h6 : u * ((t + j) / u) ≤ u * ((t + i) / u) := Nat.mul_le_mul_left u h5
        omega
    · rw [datL_par, if_neg Int.one_ne_zero]
theorem Blk.rowed {l : List (Int × Int)} {s : Int} {k t z : Nat} (h : Blk l s k t z) {kk : Int} {u : Nat} (hl : l[k]'h.hk = (kk, (u : Int))) : ∃ R, Rowed kk u z (colsOf l k t z) R := by
  have hk := h.hk
  have hok := h.right.all k hk
  unfold colsOf
  rw [getD_at hk, hl]
  rw [hl] at hok
  exact Proofs.YtiffkbmcikiioaaGreat.rowed _ _ _ _ _ hok h.z1 h.z4
/-- Counting row by row. -/
theorem count_rows (L : List C) (r : Nat) : L.countP (fun x => decide (x.row < ((r + 1 : Nat) : Int)) && !x.par) = L.countP (fun x => decide (x.row < (r : Int)) && !x.par) + L.countP (fun x => decide (x.row = (r : Int)) && !x.par) := by
  induction L with
  | nil => rfl
  | cons x q ih =>
    simp only [List.countP_cons, ih]
    cases hp : x.par with
    | true => simp
    | false =>
      by_cases h1 : x.row < (r : Int)
      · have h2 : x.row < (r : Int) + 1 := by omega
        have h3 : ¬ x.row = (r : Int) := by omega
        simp [h1, h2, h3]
        omega
      · by_cases h3 : x.row = (r : Int)
        · have h2 : (r : Int) < (r : Int) + 1 := by omega
          simp [h3, h2]
          omega
        · have h2 : ¬ x.row < ((r + 1 : Nat) : Int) := by omega
          have h4 : ¬ x.row < (r : Int) + 1 := by omega
          simp [h1, h3, h4]
theorem count_none (L : List C) (h : ∀ j (h : j < L.length), 0 ≤ L[j].row) : L.countP (fun x => decide (x.row < ((0 : Nat) : Int)) && !x.par) = 0 := by
  rw [List.countP_eq_zero]
  intro x hx
  obtain ⟨j, hj, rfl⟩ := List.getElem_of_mem hx
  have := h j hj
  simp
  omega
theorem count_all (L : List C) (R : Nat) (h : ∀ j (h : j < L.length), L[j].row < (R : Int)) : L.countP (fun x => decide (x.row < (R : Int)) && !x.par) = (datL L).length := by
  unfold datL
  rw [← List.countP_eq_length_filter]
  refine List.countP_congr fun x hx => ?_
  obtain ⟨j, hj, rfl⟩ := List.getElem_of_mem hx
  simp [h j hj]
end Go.Proofs.YtiffkbmcikiioaaGreat
