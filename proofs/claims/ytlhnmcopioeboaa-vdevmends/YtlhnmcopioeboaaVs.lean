/-
  What devices read as behind a mending (no program is named here).
-/
import Derived.Test.YtlhnmcopioeboaaVr
namespace Go.Proofs.Ytlhnmcopioeboaa
set_option maxRecDepth 100000
open Go.RowKit Go.Maps M

/-- Does the number j stand among the first m? -/
def amongN (q : Nat → Int) (j : Nat) : Nat → Bool
  | 0 => false
  | m + 1 => amongN q j m || decide (q m = (j : Int))
theorem meTo_now {L : List C} (hA : ApartN L) (ds : Nat → Dv) (aw : Nat → Bool) (E : List ByteArray) (q : Nat → Int) (hh : ∀ d, hereB ds aw d = true) : ∀ m, ∀ j, j < L.length → (meTo ds aw L E q m (devN L j)).now (atN L j) = if amongN q j m = true then (E.getD j ⟨#[]⟩).data.toList else (ds (devN L j)).now (atN L j) := by
  intro m
  induction m with
  | zero => intro j _; simp [meTo, amongN]
  | succ m ih =>
    intro j hj
    rw [meTo, amongN]
    by_cases hok : okAt L.length (q m) = true
    · rw [if_pos hok, putD_now, meTo_here, hh, ih j hj]
      obtain ⟨r, hr⟩ : ∃ r : Nat, q m = (r : Int) := by
        unfold okAt at hok
        simp at hok
        exact ⟨(q m).toNat, by omega⟩
      have hrL : r < L.length := by
        unfold okAt at hok
        rw [hr] at hok
        simp at hok
        omega
      rw [hr, Int.toNat_natCast]
      by_cases e : j = r
      · subst e; simp
      · have hne : ¬ (true = true ∧ devN L j = devN L r ∧ atN L j = atN L r) := fun h => e (hA j r hj hrL h.2.1 h.2.2)
        rw [if_neg hne]
        have : decide ((r : Int) = (j : Int)) = false := by rw [decide_eq_false_iff_not]; omega
        rw [this, Bool.or_false]
    · rw [if_neg hok, ih j hj]
      have : decide (q m = (j : Int)) = false := by
        rw [decide_eq_false_iff_not]
        intro e
        apply hok
        unfold okAt
        rw [e]
        simp
        omega
      rw [this, Bool.or_false]
theorem wrTo_lost (ds : Nat → Dv) (aw : Nat → Bool) (L : List C) (E : List ByteArray) (m i : Nat) : (wrTo ds aw L E m i).lost = (ds i).lost := by
  induction m with
  | zero => rfl
  | succ m ih =>
    rw [wrTo, ← ih]
    unfold putD
    split
    · unfold upd
      split
      · rename_i e; subst e; rfl
      · rfl
    · rfl
theorem meTo_lost (ds : Nat → Dv) (aw : Nat → Bool) (L : List C) (E : List ByteArray) (q : Nat → Int) (m i : Nat) : (meTo ds aw L E q m i).lost = (ds i).lost := by
  induction m with
  | zero => rfl
  | succ m ih =>
    rw [meTo, ← ih]
    split
    · unfold putD
      split
      · unfold upd
        split
        · rename_i e; subst e; rfl
        · rfl
      · rfl
    · rfl
/-- How many of the first m are places of columns. -/
def wantN (L : Nat) (q : Nat → Int) : Nat → Nat
  | 0 => 0
  | m + 1 => if okAt L (q m) then wantN L q m + 1 else wantN L q m
theorem meN_want (hr : Nat → Bool) (hh : ∀ d, hr d = true) (L : List C) (q : Nat → Int) (m : Nat) : meN hr L q m = wantN L.length q m := by
  induction m with
  | zero => rfl
  | succ m ih => rw [meN, wantN, hh, Bool.and_true, ih]
theorem wantN_le (L : Nat) (q : Nat → Int) (m : Nat) : wantN L q m ≤ m := by
  induction m with
  | zero => exact Nat.le_refl _
  | succ m ih => rw [wantN]; split <;> omega
end Go.Proofs.Ytlhnmcopioeboaa
