/-
  The rows of a block's columns.
-/
import Derived.Test.YtebejoigdofonaaCl
namespace Go.Proofs.Ytebejoigdofonaa
open Go.RowKit

/-- Row and parity of a column. -/
def rp (c : C) : Int × Bool := (c.row, c.par)
theorem parTo_shape (f : Int) (t u z : Nat) : (parTo f t u z).map rp = (parTo 0 0 u z).map rp := by
  induction z with
  | zero => rfl
  | succ k ih => simp only [parTo]; split <;> simp [ih, rp, colP]
def rowsN (u z : Nat) : Nat := (z - 1) / (u - 1) + 1
theorem par_rows : ∀ u : Nat, u < 9 → 3 ≤ u → ∀ z : Nat, z < 5 → 1 ≤ z →
    (∀ x ∈ (parTo 0 0 u z).map rp, 0 ≤ x.1 ∧ x.1 < (rowsN u z : Int)) ∧ (∃ x ∈ (parTo 0 0 u z).map rp, x.1 = (rowsN u z : Int) - 1) ∧
    (∀ r : Nat, r < rowsN u z → ((parTo 0 0 u z).map rp).countP (fun x => decide (x.1 = (r : Int)) && x.2) = 1) ∧
    (∀ i : Nat, i < 6 → ∀ j : Nat, j < 6 → i < j → ∀ x ∈ ((parTo 0 0 u z).map rp)[i]?, ∀ y ∈ ((parTo 0 0 u z).map rp)[j]?, x.1 = y.1 → j < i + u) ∧ rowsN u z ≤ 4 := by
  intro u h9 h3 z h5 h1
  rcases (show u = 3 ∨ u = 4 ∨ u = 5 ∨ u = 6 ∨ u = 7 ∨ u = 8 by omega) with rfl | rfl | rfl | rfl | rfl | rfl <;> rcases (show z = 1 ∨ z = 2 ∨ z = 3 ∨ z = 4 by omega) with rfl | rfl | rfl | rfl <;> decide

/-- What is known of a block's rows. -/
structure Rowed (kk : Int) (u z : Nat) (L : List C) (R : Nat) : Prop where
  few : R ≤ 4
  in_ : ∀ j (h : j < L.length), 0 ≤ L[j].row ∧ L[j].row < R
  last : ∃ j, ∃ h : j < L.length, L[j].row = (R : Int) - 1
  pars : ∀ r : Nat, r < R → (L.countP (fun x => decide (x.row = (r : Int)) && x.par) : Int) = kk
  devs : ∀ i j (hi : i < L.length) (hj : j < L.length), i < j → L[i].row = L[j].row → L[i].dev ≠ L[j].dev
  datas : (datL L).length = if kk = 0 then z * u else z
  mir : kk = 0 → R = z
theorem rowed (f : Int) (kk : Int) (u t z : Nat) (hok : okG (kk, (u : Int)) = true) (z1 : 1 ≤ z) (z4 : z ≤ 4) : ∃ R, Rowed kk u z (colsG f (kk, (u : Int)) t z) R := by
  rcases okG_cases hok with ⟨rfl, u1, u8⟩ | ⟨rfl, u1, u8⟩
  · have e : colsG f (0, (u : Int)) t z = mirL f t u z := by unfold colsG; rw [if_pos rfl]; simp
    rw [e]
    have hl := mirL_len f t u z
    have hzp : 0 < z := by omega
    have hg := mirL_get f t z hzp u
    have hmod := fun j => Nat.mod_lt j hzp
    have h1 : 1 * z ≤ u * z := Nat.mul_le_mul_right z (by omega)
    refine ⟨z, z4, fun j h => ?_, ⟨z - 1, by omega, ?_⟩, fun r hr => ?_, fun i j hi hj hij => ?_, ?_, fun _ => rfl⟩
    · rw [hg j h]; dsimp only; have := hmod j; omega
    · rw [hg (z - 1) (by omega)]; dsimp only; rw [Nat.mod_eq_of_lt (by omega)]; omega
    · have h0 : (mirL f t u z).countP (fun x => decide (x.row = (r : Int)) && x.par) = 0 := by
        rw [List.countP_eq_zero]
        intro x hx
        obtain ⟨j, hj, rfl⟩ := List.getElem_of_mem hx
        rw [hg j hj]
        simp
      rw [h0]; rfl
    · rw [hg i hi, hg j hj]
      dsimp only
      intro e1 e2
      have e3 : i % z = j % z := by omega
      have e4 : i / z = j / z := by omega
      have h2 := Nat.div_add_mod i z
      have h3 := Nat.div_add_mod j z
      rw [e3, e4] at h2
      omega
    · rw [datL_mir _ _ _ _ hzp, hl, if_pos rfl, Nat.mul_comm]
  · have e : colsG f (1, (u : Int)) t z = parTo f t u z := by unfold colsG; rw [if_neg Int.one_ne_zero]; simp
    rw [e]
    obtain ⟨p1, p2, p3, p4, p5⟩ := par_rows u (by omega) (by omega) z (by omega) z1
    rw [← parTo_shape f t u z] at p1 p2 p3 p4
    have hl6 : (parTo f t u z).length ≤ 6 := by rw [parTo_len0]; exact (par_fits u (by omega) (by omega) z (by omega) z1).2.2
    refine ⟨rowsN u z, p5, fun j h => ?_, ?_, fun r hr => ?_, fun i j hi hj hij => ?_, ?_, fun h => absurd h Int.one_ne_zero⟩
    · exact p1 (rp (parTo f t u z)[j]) (List.mem_map.2 ⟨_, List.getElem_mem h, rfl⟩)
    · obtain ⟨x, hx, hr⟩ := p2
      obtain ⟨c, hc, rfl⟩ := List.mem_map.1 hx
      obtain ⟨j, hj, rfl⟩ := List.getElem_of_mem hc
      exact ⟨j, hj, hr⟩
    · have h1 := p3 r hr
      rw [List.countP_map] at h1
      have h2 : (parTo f t u z).countP (fun x => decide (x.row = (r : Int)) && x.par) = 1 := h1
      rw [h2]; rfl
    · intro er ed
      have h1 := p4 i (by omega) j (by omega) hij (rp (parTo f t u z)[i]) (by rw [List.getElem?_map, List.getElem?_eq_getElem hi]; rfl) (rp (parTo f t u z)[j]) (by rw [List.getElem?_map, List.getElem?_eq_getElem hj]; rfl) er
      obtain ⟨r1, b1, e1⟩ := parTo_get f t u z i hi
      obtain ⟨r2, b2, e2⟩ := parTo_get f t u z j hj
      rw [e1, e2] at ed
      have ed' : f + (((t + i) % u : Nat) : Int) = f + (((t + j) % u : Nat) : Int) := ed
      have e3 : (t + i) % u = (t + j) % u := by omega
      have h2 := Nat.div_add_mod (t + i) u
      have h3 := Nat.div_add_mod (t + j) u
      rw [e3] at h2
      have h4 : u * ((t + j) / u) = u * ((t + i) / u) + (j - i) := by omega
      rcases Nat.lt_or_ge ((t + i) / u) ((t + j) / u) with h5 | h5
      · have h6 : u * ((t + i) / u + 1) ≤ u * ((t + j) / u) := Nat.mul_le_mul_left u h5
        rw [Nat.mul_add, Nat.mul_one] at h6
        omega
      · have h6 : u * ((t + j) / u) ≤ u * ((t + i) / u) := Nat.mul_le_mul_left u h5
        omega
    · rw [datL_par, if_neg Int.one_ne_zero]
theorem Blk.rowed {l : List (Int × Int)} {s : Int} {k t z : Nat} (h : Blk l s k t z) {kk : Int} {u : Nat} (hl : l[k]'h.hk = (kk, (u : Int))) : ∃ R, Rowed kk u z (colsOf l k t z) R := by
  have hk := h.hk
  have hok := h.right.all k hk
  unfold colsOf
  rw [getD_at hk, hl]
  rw [hl] at hok
  exact Proofs.Ytebejoigdofonaa.rowed _ _ _ _ _ hok h.z1 h.z4
/-- Counting row by row. -/
theorem count_rows (L : List C) (r : Nat) : L.countP (fun x => decide (x.row < ((r + 1 : Nat) : Int)) && !x.par) = L.countP (fun x => decide (x.row < (r : Int)) && !x.par) + L.countP (fun x => decide (x.row = (r : Int)) && !x.par) := by
  induction L with
  | nil => rfl
  | cons x q ih =>
    simp only [List.countP_cons, ih]
    cases hp : x.par with
    | true => simp
    | false =>
      by_cases h1 : x.row < (r : Int)
      · have h2 : x.row < (r : Int) + 1 := by omega
        have h3 : ¬ x.row = (r : Int) := by omega
        simp [h1, h2, h3]
        omega
      · by_cases h3 : x.row = (r : Int)
        · have h2 : (r : Int) < (r : Int) + 1 := by omega
          simp [h3, h2]
          omega
        · have h2 : ¬ x.row < ((r + 1 : Nat) : Int) := by omega
          have h4 : ¬ x.row < (r : Int) + 1 := by omega
          simp [h1, h3, h4]
theorem count_none (L : List C) (h : ∀ j (h : j < L.length), 0 ≤ L[j].row) : L.countP (fun x => decide (x.row < ((0 : Nat) : Int)) && !x.par) = 0 := by
  rw [List.countP_eq_zero]
  intro x hx
  obtain ⟨j, hj, rfl⟩ := List.getElem_of_mem hx
  have := h j hj
  simp
  omega
theorem count_all (L : List C) (R : Nat) (h : ∀ j (h : j < L.length), L[j].row < (R : Int)) : L.countP (fun x => decide (x.row < (R : Int)) && !x.par) = (datL L).length := by
  unfold datL
  rw [← List.countP_eq_length_filter]
  refine List.countP_congr fun x hx => ?_
  obtain ⟨j, hj, rfl⟩ := List.getElem_of_mem hx
  simp [h j hj]
end Go.Proofs.Ytebejoigdofonaa
