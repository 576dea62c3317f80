/-
  Plain facts: how many sectors are used; behind Take, behind Free.
-/
import Derived.Test.YtoiiaacjpobaeaaSi
namespace Go.Proofs.Ytoiiaacjpobaeaa
set_option maxRecDepth 100000

def inRb (l : List (Int × Int)) (i : Nat) : Bool := l.any fun r => decide (r.1 ≤ (i : Int) ∧ (i : Int) < r.1 + r.2)
theorem inRb_iff {l : List (Int × Int)} {i : Nat} : inRb l i = true ↔ inR l (i : Int) := by
  unfold inRb inR
  rw [List.any_eq_true]
  constructor
  · rintro ⟨r, hr, h⟩; exact ⟨r, hr, of_decide_eq_true h⟩
  · rintro ⟨r, hr, h⟩; exact ⟨r, hr, decide_eq_true h⟩
theorem countP_or {α : Type} (p q r : α → Bool) (hr : ∀ x, r x = (p x || q x)) (hd : ∀ x, ¬ (p x = true ∧ q x = true)) (l : List α) : l.countP r = l.countP p + l.countP q := by
  induction l with
  | nil => rfl
  | cons x l ih =>
    rw [List.countP_cons, List.countP_cons, List.countP_cons, ih, hr]
    have := hd x
    cases hp : p x <;> cases hq : q x <;> simp_all <;> omega
theorem countP_range (a n : Nat) : ∀ N, (List.range N).countP (fun i => decide (a ≤ i ∧ i < a + n)) = min (N - a) n := by
  intro N
  induction N with
  | zero => simp
  | succ N ih =>
    rw [List.range_succ, List.countP_append, ih, List.countP_singleton]
    by_cases h : a ≤ N ∧ N < a + n
    · rw [decide_eq_true h]; simp; omega
    · rw [decide_eq_false h]; simp; omega
def usedN (z : Int) (l : List (Int × Int)) : Nat := (List.range z.toNat).countP (inRb l)
theorem sum_used {z : Int} : ∀ {l : List (Int × Int)}, WF z l → sumR l = (usedN z l : Int) := by
  intro l
  induction l with
  | nil =>
    intro _
    have e : (List.range z.toNat).countP (inRb []) = 0 := List.countP_eq_zero.2 fun i _ => by simp [inRb]
    unfold usedN
    rw [e]
    rfl
  | cons r l ih =>
    intro h
    have hr := h.head
    have e := countP_or (fun i : Nat => decide (r.1.toNat ≤ i ∧ i < r.1.toNat + r.2.toNat)) (inRb l) (inRb (r :: l)) (fun i => by
      show (decide (r.1 ≤ (i : Int) ∧ (i : Int) < r.1 + r.2) || inRb l i) = _
      congr 1
      rw [decide_eq_decide]
      omega) (fun i ⟨h1, h2⟩ => by
      have h1 := of_decide_eq_true h1
      have h2 := h.after (inRb_iff.1 h2)
      omega) (List.range z.toNat)
    rw [countP_range] at e
    unfold usedN at ih ⊢
    simp only [sumR]
    rw [e, ih h.tail]
    omega
theorem used_more {z a n : Int} {l l' : List (Int × Int)} (h0 : 0 ≤ a) (h1 : 0 ≤ n) (hz : a + n ≤ z) (hd : ∀ i, a ≤ i → i < a + n → ¬ inR l i) (hm : ∀ i, inR l' i ↔ inR l i ∨ (a ≤ i ∧ i < a + n)) : (usedN z l' : Int) = usedN z l + n := by
  have e := countP_or (fun i : Nat => decide (a.toNat ≤ i ∧ i < a.toNat + n.toNat)) (inRb l) (inRb l') (fun i => by
    rw [Bool.eq_iff_iff, inRb_iff, hm, Bool.or_eq_true, inRb_iff, decide_eq_true_iff]
    constructor
    · rintro (h | h)
      · exact .inr h
      · exact .inl (by omega)
    · rintro (h | h)
      · exact .inr (by omega)
      · exact .inl h) (fun i ⟨h1, h2⟩ => by
    have h1 := of_decide_eq_true h1
    exact hd i (by omega) (by omega) (inRb_iff.1 h2)) (List.range z.toNat)
  rw [countP_range] at e
  unfold usedN
  rw [e]
  omega
theorem Taken.sum {z a n : Int} {l l' : List (Int × Int)} (h : Taken z l a n l') (hw : WF z l) (hf : FreeR z l a n) : sumR l' = sumR l + n := by
  rw [sum_used h.wf, sum_used hw]
  exact used_more hf.1 (by have := hf.2.1; omega) hf.2.2.1 hf.2.2.2 h.mem
theorem Freed.sum {z a n : Int} {l l' : List (Int × Int)} (h : Freed z l a n l') (hw : WF z l) (hh : hasB z a n = true) (hf : FullR l a n) : sumR l' = sumR l - n := by
  obtain ⟨h1, h0, hz⟩ := hasB_true hh
  rw [sum_used h.wf, sum_used hw]
  have := used_more (z := z) (a := a) (n := n) (l := l') (l' := l) h0 (by omega) hz (fun i hi hj h' => ((h.mem i).1 h').2 ⟨hi, hj⟩) (fun i => by
    rw [h.mem]
    constructor
    · intro hi
      by_cases hc : a ≤ i ∧ i < a + n
      · exact .inr hc
      · exact .inl ⟨hi, hc⟩
    · rintro (h | h)
      · exact h.1
      · exact hf i h.1 h.2)
  omega
theorem TakeR.wf {z a n r : Int} {l l' : List (Int × Int)} (h : TakeR z a n l r l') (hw : WF z l) : WF z l' := by
  rcases h with ⟨_, _, rfl⟩ | ⟨_, _, _, rfl⟩ | ⟨_, _, h⟩
  · exact hw
  · exact hw
  · exact h.wf
theorem DropR.wf {z a n r : Int} {l l' : List (Int × Int)} (h : DropR z a n l r l') (hw : WF z l) : WF z l' := by
  rcases h with ⟨_, _, rfl⟩ | ⟨_, _, _, rfl⟩ | ⟨_, _, _, h⟩
  · exact hw
  · exact hw
  · exact h.wf
/-- A free stretch is taken. -/
theorem TakeR.free {z a n r : Int} {l l' : List (Int × Int)} (h : TakeR z a n l r l') (hf : FreeR z l a n) : r = 0 ∧ Taken z l a n l' := by
  rcases h with ⟨_, h, _⟩ | ⟨_, _, h, _⟩ | ⟨e, _, h⟩
  · rw [hf.has] at h; cases h
  · exact absurd hf h
  · exact ⟨e, h⟩
theorem TakeR.used {z a n r : Int} {l l' : List (Int × Int)} (h : TakeR z a n l r l') (hh : hasB z a n = true) (hf : ¬ FreeR z l a n) : r = 13 ∧ l' = l := by
  rcases h with ⟨_, h, _⟩ | ⟨e, _, _, e2⟩ | ⟨_, h, _⟩
  · rw [hh] at h; cases h
  · exact ⟨e, e2⟩
  · exact absurd h hf
theorem TakeR.not {z a n r : Int} {l l' : List (Int × Int)} (h : TakeR z a n l r l') (hf : ¬ FreeR z l a n) : r ≠ 0 := by
  rcases h with ⟨e, _⟩ | ⟨e, _⟩ | ⟨_, h, _⟩
  · omega
  · omega
  · exact absurd h hf
theorem Taken.full {z a n : Int} {l l' : List (Int × Int)} (h : Taken z l a n l') : FullR l' a n := fun i h0 h1 => (h.mem i).2 (.inr ⟨h0, h1⟩)
theorem Freed.free {z a n : Int} {l l' : List (Int × Int)} (h : Freed z l a n l') (hh : hasB z a n = true) : FreeR z l' a n := by
  obtain ⟨h1, h0, hz⟩ := hasB_true hh
  exact ⟨h0, h1, hz, fun i hi hj h' => ((h.mem i).1 h').2 ⟨hi, hj⟩⟩
/-- Taken, and freed: as it was. -/
theorem Taken.back {z a n : Int} {l l' l'' : List (Int × Int)} (h : Taken z l a n l') (h2 : Freed z l' a n l'') (hw : WF z l) (hf : FreeR z l a n) : l'' = l :=
  h2.wf.uniq hw fun i => by
    rw [h2.mem, h.mem]
    constructor
    · rintro ⟨h | h, h'⟩
      · exact h
      · exact absurd h h'
    · exact fun hi => ⟨.inl hi, fun hc => hf.2.2.2 i hc.1 hc.2 hi⟩
theorem Freed.back {z a n : Int} {l l' l'' : List (Int × Int)} (h : Freed z l a n l') (h2 : Taken z l' a n l'') (hw : WF z l) (hf : FullR l a n) : l'' = l :=
  h2.wf.uniq hw fun i => by
    rw [h2.mem, h.mem]
    constructor
    · rintro (h | h)
      · exact h.1
      · exact hf i h.1 h.2
    · intro hi
      by_cases hc : a ≤ i ∧ i < a + n
      · exact .inr hc
      · exact .inl ⟨hi, hc⟩
theorem DropR.full {z a n r : Int} {l l' : List (Int × Int)} (h : DropR z a n l r l') (hh : hasB z a n = true) (hf : FullR l a n) : r = 0 ∧ Freed z l a n l' := by
  rcases h with ⟨_, h, _⟩ | ⟨_, _, h, _⟩ | ⟨e, _, _, h⟩
  · rw [hh] at h; cases h
  · exact absurd hf h
  · exact ⟨e, h⟩
/-- What is found behind Take lies beside it. -/
theorem Taken.beside {z a n s : Int} {l l' : List (Int × Int)} (h : Taken z l a n l') (hf : FreeR z l' s n) : a + n ≤ s ∨ s + n ≤ a := by
  by_cases h2 : a + n ≤ s
  · exact .inl h2
  · by_cases h3 : s + n ≤ a
    · exact .inr h3
    · exact absurd ((h.mem (max a s)).2 (.inr ⟨by omega, by omega⟩)) (hf.2.2.2 _ (by omega) (by omega))
theorem Taken.notfree {z a n : Int} {l l' : List (Int × Int)} (h : Taken z l a n l') (h1 : 1 ≤ n) : ¬ FreeR z l' a n := fun hf => hf.2.2.2 a (Int.le_refl _) (by omega) (h.full a (Int.le_refl _) (by omega))
theorem FindR.free {z n f a : Int} {l : List (Int × Int)} (h : FindR z l n f a true) : FreeR z l a n := by
  rcases h with ⟨_, _, _, _, h | h⟩ | ⟨h, _⟩
  · exact h.1
  · exact h.2.1
  · cases h
theorem FindR.none {z n f a : Int} {l : List (Int × Int)} (h : FindR z l n f a false) (h1 : 1 ≤ n) (h0 : 0 ≤ f) (hz : f ≤ z) : ∀ s, ¬ FreeR z l s n := by
  rcases h with ⟨h, _⟩ | ⟨_, _, h | h | h | h⟩
  · cases h
  · omega
  · omega
  · omega
  · exact h
end Go.Proofs.Ytoiiaacjpobaeaa
