/-
  A block's columns: where they are.
-/
import Derived.Test.YtiffkbmcikiioaaGreatY07

/- A block's columns: where they are. -/
namespace Go.Proofs.YtiffkbmcikiioaaGreat
set_option maxRecDepth 100000
open Go.RowKit

theorem mirL_get (f t : Int) (z : Nat) (hz : 0 < z) : ∀ (u j : Nat) (h : j < (mirL f t u z).length), (mirL f t u z)[j] = ⟨f + (j / z : Nat), 16 + t + (j % z : Nat), false, (j % z : Nat)⟩ := by
  intro u
  induction u with
  | zero => intro j h; simp [mirL] at h
  | succ u ih =>
    intro j h
    have hl := mirL_len f t u z
    have hl2 : (mirL f t (u + 1) z).length = u * z + z := by rw [mirL_len, Nat.add_mul, Nat.one_mul]
    have e : (mirL f t (u + 1) z)[j] = (mirL f t u z ++ mirRow f t u z)[j]'(by rw [← mirL_succ]; exact h) := by congr 1; exact mirL_succ f t u z
    rw [e]
    by_cases hj : j < (mirL f t u z).length
    · rw [List.getElem_append_left hj]; exact ih j hj
    · rw [List.getElem_append_right (by omega)]
      have h1 : j - (mirL f t u z).length < z := by omega
      obtain ⟨i, hi⟩ : ∃ i, j = u * z + i := ⟨j - u * z, by omega⟩
      have hiz : i < z := by omega
      have hd : j / z = u := by rw [hi, Nat.mul_comm, Nat.mul_add_div hz, Nat.div_eq_of_lt hiz, Nat.add_zero]
      have hm : j % z = i := by rw [hi, Nat.mul_comm, Nat.mul_add_mod, Nat.mod_eq_of_lt hiz]
      rw [hd, hm]
      have h2 : j - (mirL f t u z).length = i := by omega
      simp [mirRow, h2]
theorem parTo_get (f : Int) (t u : Nat) : ∀ (z j : Nat) (h : j < (parTo f t u z).length), ∃ r p, (parTo f t u z)[j] = colP f u (t + j) r p := by
  intro z
  induction z with
  | zero => intro j h; simp [parTo] at h
  | succ k ih =>
    intro j h
    have key : ∀ (L : List C) (e : parTo f t u (k + 1) = L) (hj : j < L.length), (∃ r p, L[j] = colP f u (t + j) r p) → ∃ r p, (parTo f t u (k + 1))[j] = colP f u (t + j) r p := by
      intro L e hj hx
      obtain ⟨r, p, hx⟩ := hx
      exact ⟨r, p, by rw [← hx]; congr 1⟩
    by_cases hm : k % (u - 1) = 0
    · have e : parTo f t u (k + 1) = parTo f t u k ++ [colP f u (t + (parTo f t u k).length) (k / (u - 1)) true] ++ [colP f u (t + (parTo f t u k).length + 1) (k / (u - 1)) false] := by rw [parTo, if_pos hm]
      have hl := congrArg List.length e
      simp at hl
      refine key _ e (by simp; omega) ?_
      by_cases h1 : j < (parTo f t u k).length
      · obtain ⟨r, p, hx⟩ := ih j h1
        exact ⟨r, p, by rw [List.getElem_append_left (by rw [List.length_append]; omega), List.getElem_append_left h1]; exact hx⟩
      · by_cases h2 : j = (parTo f t u k).length
        · subst h2; exact ⟨k / (u - 1), true, by simp⟩
        · have h3 : j = (parTo f t u k).length + 1 := by omega
          subst h3; exact ⟨k / (u - 1), false, by simp [Nat.add_assoc]⟩
    · have e : parTo f t u (k + 1) = parTo f t u k ++ [colP f u (t + (parTo f t u k).length) (k / (u - 1)) false] := by rw [parTo, if_neg hm]
      have hl := congrArg List.length e
      simp at hl
      refine key _ e (by simp; omega) ?_
      by_cases h1 : j < (parTo f t u k).length
      · obtain ⟨r, p, hx⟩ := ih j h1
        exact ⟨r, p, by rw [List.getElem_append_left h1]; exact hx⟩
      · have h2 : j = (parTo f t u k).length := by omega
        subst h2; exact ⟨k / (u - 1), false, by simp⟩
theorem parTo_len0 (f : Int) (t u z : Nat) : (parTo f t u z).length = (parTo 0 0 u z).length := by
  induction z with
  | zero => rfl
  | succ k ih => simp only [parTo]; split <;> simp [ih]
theorem par_fits : ∀ u : Nat, u < 9 → 3 ≤ u → ∀ z : Nat, z < 5 → 1 ≤ z → (z : Int) < (parTo 0 0 u z).length ∧ ((parTo 0 0 u z).length : Int) ≤ takesG (1, (u : Int)) z ∧ (parTo 0 0 u z).length ≤ 6 := by decide

/-- Where a column is: of a Mirror its sector, of a Parity the group's sector. -/
def posC (f : Int) (x : Int × Int) (c : C) : Int := if x.1 = 0 then c.at_ - 16 else (c.at_ - 16) * x.2 + (c.dev - f)
theorem colP_pos (f : Int) (u y r : Nat) (p : Bool) (hu : 0 < u) : posC f (1, (u : Int)) (colP f u y r p) = y ∧ f ≤ (colP f u y r p).dev ∧ (colP f u y r p).dev < f + u ∧ 16 ≤ (colP f u y r p).at_ := by
  have h1 := Nat.mod_lt y hu
  have h2 := Nat.div_add_mod y u
  refine ⟨?_, ?_, ?_, ?_⟩
  · unfold posC colP
    simp only [Int.one_ne_zero, if_false]
    have h3 : ((y / u : Nat) : Int) * (u : Int) + ((y % u : Nat) : Int) = y := by
      have h4 : u * (y / u) + y % u = y := h2
      have h5 : ((u * (y / u) + y % u : Nat) : Int) = (y : Int) := by rw [h4]
      rw [Int.natCast_add, Int.natCast_mul, Int.mul_comm] at h5
      exact h5
    have e1 : 16 + ((y / u : Nat) : Int) - 16 = ((y / u : Nat) : Int) := by omega
    have e2 : f + ((y % u : Nat) : Int) - f = ((y % u : Nat) : Int) := by omega
    rw [e1, e2]
    exact h3
  · show f ≤ f + ((y % u : Nat) : Int); omega
  · show f + ((y % u : Nat) : Int) < f + u; omega
  · show 16 ≤ 16 + ((y / u : Nat) : Int); have := Int.natCast_nonneg (y / u); omega

/-- What is known of a block's columns. -/
structure Laid (f : Int) (x : Int × Int) (s : Int) (t z : Nat) (L : List C) : Prop where
  pos : 0 < L.length
  few : L.length ≤ 32
  dev0 : ∀ j (h : j < L.length), f ≤ L[j].dev
  dev1 : ∀ j (h : j < L.length), L[j].dev < f + x.2
  at0 : ∀ j (h : j < L.length), 16 ≤ L[j].at_
  at1 : ∀ j (h : j < L.length), L[j].at_ < s
  pos0 : ∀ j (h : j < L.length), t ≤ posC f x L[j]
  pos1 : ∀ j (h : j < L.length), posC f x L[j] < t + takesG x z
  apart : ∀ i j (hi : i < L.length) (hj : j < L.length), i < j → ¬ (L[j].dev = L[i].dev ∧ L[j].at_ = L[i].at_)
theorem laid (f : Int) (kk : Int) (u : Nat) (s : Int) (t z : Nat) (hok : okG (kk, (u : Int)) = true) (z1 : 1 ≤ z) (z4 : z ≤ 4) (fit : (t : Int) + takesG (kk, (u : Int)) z ≤ gives (kk, (u : Int)) s) :
    Laid f (kk, (u : Int)) s t z (colsG f (kk, (u : Int)) t z) := by
  rcases okG_cases hok with ⟨rfl, u1, u8⟩ | ⟨rfl, u1, u8⟩
  · have e : colsG f (0, (u : Int)) t z = mirL f t u z := by unfold colsG; rw [if_pos rfl]; simp
    rw [e]
    have hl := mirL_len f t u z
    have hzp : 0 < z := by omega
    have hg := mirL_get f t z hzp u
    have hmod := fun j => Nat.mod_lt j hzp
    have hdiv : ∀ j, j < (mirL f t u z).length → j / z < u := fun j hj => by rw [Nat.div_lt_iff_lt_mul hzp]; omega
    have f1 : (t : Int) + z ≤ s - 16 := by simpa [takesG, gives] using fit
    have h1 : 1 * 1 ≤ u * z := Nat.mul_le_mul (by omega) z1
    have h2 : u * z ≤ 8 * 4 := Nat.mul_le_mul (by omega) z4
    refine ⟨by omega, by omega, fun j h => ?_, fun j h => ?_, fun j h => ?_, fun j h => ?_, fun j h => ?_, fun j h => ?_, fun i j hi hj hij => ?_⟩
    · rw [hg j h]; show f ≤ f + ((j / z : Nat) : Int); have := Int.natCast_nonneg (j / z); omega
    · rw [hg j h]; show f + ((j / z : Nat) : Int) < f + u; have := hdiv j h; omega
    · rw [hg j h]; show 16 ≤ 16 + (t : Int) + ((j % z : Nat) : Int); omega
    · rw [hg j h]; show 16 + (t : Int) + ((j % z : Nat) : Int) < s; have := hmod j; omega
    · rw [hg j h]; show (t : Int) ≤ 16 + (t : Int) + ((j % z : Nat) : Int) - 16; omega
    · rw [hg j h]; show 16 + (t : Int) + ((j % z : Nat) : Int) - 16 < t + (z : Int); have := hmod j; omega
    · rw [hg j hj, hg i hi]
      rintro ⟨e1, e2⟩
      have e1' : f + ((j / z : Nat) : Int) = f + ((i / z : Nat) : Int) := e1
      have e2' : 16 + (t : Int) + ((j % z : Nat) : Int) = 16 + (t : Int) + ((i % z : Nat) : Int) := e2
      have e3 : j / z = i / z := by omega
      have e4 : j % z = i % z := by omega
      have := Nat.div_add_mod j z
      have := Nat.div_add_mod i z
      rw [e3, e4] at *
      omega
  · have e : colsG f (1, (u : Int)) t z = parTo f t u z := by unfold colsG; rw [if_neg Int.one_ne_zero]; simp
    rw [e]
    have hup : 0 < u := by omega
    obtain ⟨p1, p2, p3⟩ := par_fits u (by omega) (by omega) z (by omega) z1
    have hl := parTo_len0 f t u z
    rw [← hl] at p1 p2 p3
    have f1 : (t : Int) + takesG (1, (u : Int)) z ≤ (s - 16) * u := by simpa [gives] using fit
    have hp : ∀ j (h : j < (parTo f t u z).length), posC f (1, (u : Int)) (parTo f t u z)[j] = (t : Int) + j ∧ f ≤ (parTo f t u z)[j].dev ∧ (parTo f t u z)[j].dev < f + u ∧ 16 ≤ (parTo f t u z)[j].at_ := fun j h => by
      obtain ⟨r, p, e⟩ := parTo_get f t u z j h
      rw [e]
      have := colP_pos f u (t + j) r p hup
      rw [Int.natCast_add] at this
      exact this
    refine ⟨by omega, by omega, fun j h => (hp j h).2.1, fun j h => (hp j h).2.2.1, fun j h => (hp j h).2.2.2, fun j h => ?_, fun j h => ?_, fun j h => ?_, fun i j hi hj hij => ?_⟩
    · obtain ⟨h1, h2, h3, h4⟩ := hp j h
      rcases ltge (parTo f t u z)[j].at_ s with h5 | h5
      · exact h5
      · have h6 : (s - 16) * u ≤ ((parTo f t u z)[j].at_ - 16) * u := Int.mul_le_mul_of_nonneg_right (by omega) (by omega)
        unfold posC at h1
        simp only [Int.one_ne_zero, if_false] at h1
        omega
    · rw [(hp j h).1]; omega
    · rw [(hp j h).1]; omega
    · rintro ⟨e1, e2⟩
      have h1 := (hp i hi).1
      have h2 := (hp j hj).1
      unfold posC at h1 h2
      rw [e1, e2] at h2
      omega
theorem Blk.laid {l : List (Int × Int)} {s : Int} {k t z : Nat} (h : Blk l s k t z) : Laid (aheadL l k) (l[k]'h.hk) s t z (colsOf l k t z) := by
  have hk := h.hk
  obtain ⟨kk, u, hlk, hok⟩ : ∃ kk u, l[k] = (kk, u) ∧ okG (kk, u) = true := ⟨l[k].1, l[k].2, rfl, h.right.all k hk⟩
  obtain ⟨u0, rfl⟩ := Int.eq_ofNat_of_zero_le (show 0 ≤ u by have := okG_wide hok; omega)
  have hf := h.fit
  unfold colsOf
  rw [getD_at hk, hlk]
  rw [hlk] at hf
  exact Proofs.YtiffkbmcikiioaaGreat.laid _ _ _ _ _ _ hok h.z1 h.z4 hf
theorem aheadL_next {l : List (Int × Int)} {s : Int} (hr : RightM l s) {k m : Nat} (hk : k < l.length) (hkm : k < m) (hm : m ≤ l.length) : aheadL l k + l[k].2 ≤ aheadL l m := by
  rw [← aheadL_succ l k hk]
  exact hr.mono hkm hm
theorem Blk.dev {l : List (Int × Int)} {s : Int} {k t z : Nat} (h : Blk l s k t z) (j : Nat) (hj : j < (colsOf l k t z).length) : 0 ≤ (colsOf l k t z)[j].dev ∧ (colsOf l k t z)[j].dev < devsL l s := by
  have h1 := h.laid.dev0 j hj
  have h2 := h.laid.dev1 j hj
  have h3 := (h.right.bounds k (Nat.le_of_lt h.hk)).1
  have h4 := aheadL_next h.right h.hk h.hk (Nat.le_refl _)
  have h5 : devsL l s = aheadL l l.length := by unfold devsL; rw [rightM_iff.2 h.right, if_pos rfl]
  omega
theorem blk_apart {l : List (Int × Int)} {s : Int} {k t z k' t' z' : Nat} (h : Blk l s k t z) (h' : Blk l s k' t' z')
    (ha : k ≠ k' ∨ (t : Int) + takesG (l[k]'h.hk) z ≤ t' ∨ (t' : Int) + takesG (l[k']'h'.hk) z' ≤ t) (i j : Nat) (hi : i < (colsOf l k t z).length) (hj : j < (colsOf l k' t' z').length) :
    ¬ ((colsOf l k t z)[i].dev = (colsOf l k' t' z')[j].dev ∧ (colsOf l k t z)[i].at_ = (colsOf l k' t' z')[j].at_) := by
  rintro ⟨e1, e2⟩
  have a0 := h.laid.dev0 i hi
  have a1 := h.laid.dev1 i hi
  have b0 := h'.laid.dev0 j hj
  have b1 := h'.laid.dev1 j hj
  by_cases e : k = k'
  · subst e
    have p0 := h.laid.pos0 i hi
    have p1 := h.laid.pos1 i hi
    have q0 := h'.laid.pos0 j hj
    have q1 := h'.laid.pos1 j hj
    have e3 : posC (aheadL l k) (l[k]'h.hk) (colsOf l k t z)[i] = posC (aheadL l k) (l[k]'h.hk) (colsOf l k t' z')[j] := by unfold posC; rw [e1, e2]
    rw [e3] at p0 p1
    rcases ha with ha | ha | ha
    · exact ha rfl
    · omega
    · omega
  · rcases Nat.lt_or_ge k k' with hlt | hge
    · have := aheadL_next h.right h.hk hlt (Nat.le_of_lt h'.hk)
      omega
    · have := aheadL_next h.right h'.hk (show k' < k by omega) (Nat.le_of_lt h.hk)
      omega
end Go.Proofs.YtiffkbmcikiioaaGreat
