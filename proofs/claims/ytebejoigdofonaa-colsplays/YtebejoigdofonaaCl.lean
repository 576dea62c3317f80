/-
  The data columns of a block's sectors: how many there are.
-/
import Derived.Test.YtebejoigdofonaaCk
namespace Go.Proofs.Ytebejoigdofonaa
open Go.RowKit

theorem heldTo_mem {M : List C} {z : Nat} {i : Int} {k : Nat} {x : C} (h : x ∈ heldTo M z i k) : x ∈ M := by
  induction k with
  | zero => simp [heldTo] at h
  | succ k ih =>
    unfold heldTo at h
    split at h
    · rcases List.mem_append.1 h with h | h
      · exact ih h
      · rw [Option.mem_toList] at h
        exact List.mem_of_getElem? h
    · exact ih h
/-- How many columns hold one of the first I sectors. -/
def cnt (M : List C) (z n : Nat) : Nat → Nat
  | 0 => 0
  | I + 1 => cnt M z n I + (heldTo M z (I : Int) n).length
theorem cnt_succ (M : List C) (z n : Nat) (hn : n < M.length) (I : Nat) : cnt M z (n + 1) I = cnt M z n I + (if n % z < I then 1 else 0) := by
  induction I with
  | zero => simp [cnt]
  | succ I ih =>
    rw [cnt, cnt, ih]
    by_cases e : n % z = I
    · rw [heldTo_yes (by rw [e]) ⟨hn, rfl⟩, List.length_append, if_neg (by omega), if_pos (by omega)]
      simp
      omega
    · rw [heldTo_no (by omega)]
      by_cases h : n % z < I
      · rw [if_pos h, if_pos (by omega)]; omega
      · rw [if_neg h, if_neg (by omega)]; omega
theorem cnt_all (M : List C) (z : Nat) (hz : 0 < z) (n : Nat) (hn : n ≤ M.length) : cnt M z n z = n := by
  induction n with
  | zero =>
    have : ∀ I, cnt M z 0 I = 0 := fun I => by
      induction I with
      | zero => rfl
      | succ I ih => rw [cnt, ih]; rfl
    exact this z
  | succ n ih => rw [cnt_succ M z n hn z, ih (by omega), if_pos (Nat.mod_lt _ hz)]
theorem cnt_mono (M : List C) (z n I J : Nat) (h : I ≤ J) : cnt M z n I ≤ cnt M z n J := by
  induction J with
  | zero => obtain rfl : I = 0 := by omega
            exact Nat.le_refl _
  | succ J ih =>
    by_cases e : I = J + 1
    · subst e; exact Nat.le_refl _
    · have := ih (by omega)
      rw [cnt]; omega
theorem heldTo_grow (M : List C) (z : Nat) (i : Int) (k n : Nat) (h : k ≤ n) : (heldTo M z i k).length ≤ (heldTo M z i n).length := by
  induction n with
  | zero => obtain rfl : k = 0 := by omega
            exact Nat.le_refl _
  | succ n ih =>
    by_cases e : k = n + 1
    · subst e; exact Nat.le_refl _
    · have := ih (by omega)
      have h2 : (heldTo M z i n).length ≤ (heldTo M z i (n + 1)).length := by
        conv => rhs; rw [heldTo]
        split
        · rw [List.length_append]; omega
        · omega
      omega
theorem held_some (M : List C) (z i : Nat) (hi : i < z) (hM : z ≤ M.length) : 0 < (heldTo M z (i : Int) M.length).length := by
  have h1 : heldTo M z (i : Int) (i + 1) = heldTo M z (i : Int) i ++ [M[i]'(by omega)] := heldTo_yes (by rw [Nat.mod_eq_of_lt hi]) ⟨by omega, rfl⟩
  have h2 := heldTo_grow M z (i : Int) (i + 1) M.length (by omega)
  rw [h1, List.length_append] at h2
  simp at h2
  omega
theorem held_none (M : List C) (z : Nat) (hz : 0 < z) (i : Int) (hi : i < 0 ∨ (z : Int) ≤ i) (n : Nat) : heldTo M z i n = [] := by
  induction n with
  | zero => rfl
  | succ n ih =>
    rw [heldTo_no (by have := Nat.mod_lt n hz; omega), ih]

theorem datL_app (a b : List C) : datL (a ++ b) = datL a ++ datL b := List.filter_append ..
theorem datL_mir (f t : Int) (u z : Nat) (hz : 0 < z) : datL (mirL f t u z) = mirL f t u z := List.filter_eq_self.2 fun x hx => by
  obtain ⟨j, hj, rfl⟩ := List.getElem_of_mem hx
  rw [mirL_get f t z hz u j hj]
  rfl
theorem datL_par (f : Int) (t u z : Nat) : (datL (parTo f t u z)).length = z := by
  induction z with
  | zero => rfl
  | succ k ih =>
    unfold parTo
    split
    · rw [datL_app, datL_app, List.length_append, List.length_append, ih]; rfl
    · rw [datL_app, List.length_append, ih]; rfl
theorem Blk.datas {l : List (Int × Int)} {s : Int} {k t z : Nat} (h : Blk l s k t z) : z ≤ (datL (colsOf l k t z)).length := by
  have hk := h.hk
  obtain ⟨kk, u, hlk, hok⟩ : ∃ kk u, l[k] = (kk, u) ∧ okG (kk, u) = true := ⟨l[k].1, l[k].2, rfl, h.right.all k hk⟩
  unfold colsOf
  rw [getD_at hk, hlk]
  unfold colsG
  split
  · rw [datL_mir _ _ _ _ h.z1, mirL_len]
    have h1 : 1 ≤ u.toNat := by have := okG_wide hok; dsimp only at this; omega
    have h2 : 1 * z ≤ u.toNat * z := Nat.mul_le_mul_right z h1
    show z ≤ u.toNat * z
    omega
  · rw [datL_par]; exact Nat.le_refl _
theorem dats_pars (L : List C) : (datL L).length + L.countP (fun x => x.par) = L.length := by
  induction L with
  | nil => rfl
  | cons x r ih =>
    unfold datL at ih ⊢
    cases h : x.par with
    | true => simp [h]; omega
    | false => simp [h]; omega
end Go.Proofs.Ytebejoigdofonaa
