/-
  Plain facts on runs: lists of stretches that rise, apart; what is in them.
-/
import Derived.Test.YtoiiaacjpobaeaaChecked
namespace Go.Proofs.Ytoiiaacjpobaeaa
set_option maxRecDepth 100000

/-- Is a sector in one of the runs? -/
def inR (l : List (Int × Int)) (i : Int) : Prop := ∃ r ∈ l, r.1 ≤ i ∧ i < r.1 + r.2
/-- Runs that rise, apart, in a map of z sectors. -/
structure WF (z : Int) (l : List (Int × Int)) : Prop where
  ap : l.Pairwise fun r s => r.1 + r.2 < s.1
  ok : ∀ r ∈ l, 0 ≤ r.1 ∧ 1 ≤ r.2 ∧ r.1 + r.2 ≤ z
theorem WF.nil (z : Int) : WF z [] := ⟨.nil, fun _ h => by cases h⟩
theorem inR_nil (i : Int) : ¬ inR [] i := fun ⟨_, h, _⟩ => by cases h
theorem inR_cons (r : Int × Int) (l : List (Int × Int)) (i : Int) : inR (r :: l) i ↔ (r.1 ≤ i ∧ i < r.1 + r.2) ∨ inR l i := by
  unfold inR
  constructor
  · rintro ⟨s, hs, h⟩
    rcases List.mem_cons.1 hs with rfl | hs
    · exact .inl h
    · exact .inr ⟨s, hs, h⟩
  · rintro (h | ⟨s, hs, h⟩)
    · exact ⟨r, List.mem_cons_self, h⟩
    · exact ⟨s, List.mem_cons_of_mem _ hs, h⟩
theorem inR_app (l m : List (Int × Int)) (i : Int) : inR (l ++ m) i ↔ inR l i ∨ inR m i := by
  induction l with
  | nil => simp [inR_nil]
  | cons r l ih => rw [List.cons_append, inR_cons, inR_cons, ih, or_assoc]
theorem WF.tail {z : Int} {r : Int × Int} {l : List (Int × Int)} (h : WF z (r :: l)) : WF z l := ⟨(List.pairwise_cons.1 h.ap).2, fun s hs => h.ok s (List.mem_cons_of_mem _ hs)⟩
theorem WF.head {z : Int} {r : Int × Int} {l : List (Int × Int)} (h : WF z (r :: l)) : 0 ≤ r.1 ∧ 1 ≤ r.2 ∧ r.1 + r.2 ≤ z := h.ok r List.mem_cons_self
theorem WF.after {z : Int} {r : Int × Int} {l : List (Int × Int)} (h : WF z (r :: l)) {i : Int} (hi : inR l i) : r.1 + r.2 < i := by
  obtain ⟨s, hs, h1, _⟩ := hi
  have := (List.pairwise_cons.1 h.ap).1 s hs
  omega
theorem WF.bound {z : Int} {l : List (Int × Int)} (h : WF z l) {i : Int} (hi : inR l i) : 0 ≤ i ∧ i < z := by
  obtain ⟨s, hs, h1, h2⟩ := hi
  have := h.ok s hs
  omega
theorem WF.app {z : Int} {l m : List (Int × Int)} (hl : WF z l) (hm : WF z m) (h : ∀ r ∈ l, ∀ s ∈ m, r.1 + r.2 < s.1) : WF z (l ++ m) :=
  ⟨List.pairwise_append.2 ⟨hl.ap, hm.ap, h⟩, fun r hr => (List.mem_append.1 hr).elim (hl.ok r) (hm.ok r)⟩
theorem WF.left {z : Int} {l m : List (Int × Int)} (h : WF z (l ++ m)) : WF z l := ⟨(List.pairwise_append.1 h.ap).1, fun r hr => h.ok r (List.mem_append_left _ hr)⟩
theorem WF.right {z : Int} {l m : List (Int × Int)} (h : WF z (l ++ m)) : WF z m := ⟨(List.pairwise_append.1 h.ap).2.1, fun r hr => h.ok r (List.mem_append_right _ hr)⟩
theorem WF.mid {z : Int} {l m : List (Int × Int)} (h : WF z (l ++ m)) : ∀ r ∈ l, ∀ s ∈ m, r.1 + r.2 < s.1 := (List.pairwise_append.1 h.ap).2.2
theorem WF.one {z : Int} (a n : Int) (h0 : 0 ≤ a) (h1 : 1 ≤ n) (h2 : a + n ≤ z) : WF z [(a, n)] := ⟨List.pairwise_singleton _ _, fun r hr => by rw [List.mem_singleton.1 hr]; exact ⟨h0, h1, h2⟩⟩
/-- What is in them tells the runs. -/
theorem WF.uniq {z : Int} : ∀ {l m : List (Int × Int)}, WF z l → WF z m → (∀ i, inR l i ↔ inR m i) → l = m := by
  intro l
  induction l with
  | nil =>
    intro m _ hm h
    cases m with
    | nil => rfl
    | cons s m =>
      have := hm.head
      exact absurd ((h s.1).2 ((inR_cons s m _).2 (.inl ⟨by omega, by omega⟩))) (inR_nil _)
  | cons r l ih =>
    intro m hl hm h
    cases m with
    | nil =>
      have := hl.head
      exact absurd ((h r.1).1 ((inR_cons r l _).2 (.inl ⟨by omega, by omega⟩))) (inR_nil _)
    | cons s m =>
      have hr := hl.head
      have hs := hm.head
      have h1 : s.1 ≤ r.1 := by
        rcases (inR_cons s m _).1 ((h r.1).1 ((inR_cons r l _).2 (.inl ⟨by omega, by omega⟩))) with h | h
        · exact h.1
        · have := hm.after h; omega
      have h2 : r.1 ≤ s.1 := by
        rcases (inR_cons r l _).1 ((h s.1).2 ((inR_cons s m _).2 (.inl ⟨by omega, by omega⟩))) with h | h
        · exact h.1
        · have := hl.after h; omega
      have h3 : s.1 + s.2 ≤ r.1 + r.2 := by
        refine Int.not_lt.1 fun hlt => ?_
        rcases (inR_cons r l _).1 ((h (r.1 + r.2)).2 ((inR_cons s m _).2 (.inl ⟨by omega, by omega⟩))) with h | h
        · omega
        · have := hl.after h; omega
      have h4 : r.1 + r.2 ≤ s.1 + s.2 := by
        refine Int.not_lt.1 fun hlt => ?_
        rcases (inR_cons s m _).1 ((h (s.1 + s.2)).1 ((inR_cons r l _).2 (.inl ⟨by omega, by omega⟩))) with h | h
        · omega
        · have := hm.after h; omega
      have e : r = s := Prod.ext (by omega) (by omega)
      subst e
      congr 1
      refine ih hl.tail hm.tail fun i => ⟨fun hi => ?_, fun hi => ?_⟩
      · have ha := hl.after hi
        rcases (inR_cons r m _).1 ((h i).1 ((inR_cons r l _).2 (.inr hi))) with h | h
        · omega
        · exact h
      · have ha := hm.after hi
        rcases (inR_cons r l _).1 ((h i).2 ((inR_cons r m _).2 (.inr hi))) with h | h
        · omega
        · exact h

/-- How many sectors the runs have. -/
def sumR : List (Int × Int) → Int
  | [] => 0
  | r :: l => r.2 + sumR l
theorem sumR_app (l m : List (Int × Int)) : sumR (l ++ m) = sumR l + sumR m := by
  induction l with
  | nil => simp [sumR]
  | cons r l ih => simp only [List.cons_append, sumR, ih]; omega
theorem sumR_take {l : List (Int × Int)} {k : Nat} (hk : k < l.length) : sumR (l.take (k + 1)) = sumR (l.take k) + l[k].2 := by
  rw [List.take_succ_eq_append_getElem hk, sumR_app]
  simp [sumR]
theorem sumR_le {z : Int} : ∀ {l : List (Int × Int)} {lo : Int}, WF z l → (∀ r ∈ l, lo ≤ r.1) → lo ≤ z → (l.length : Int) ≤ sumR l ∧ sumR l ≤ z - lo := by
  intro l
  induction l with
  | nil => intro lo _ _ h; simp [sumR]; omega
  | cons r l ih =>
    intro lo h hlo hz
    have hr := h.head
    have h1 := hlo r List.mem_cons_self
    have := ih (lo := r.1 + r.2) h.tail (fun s hs => by have := (List.pairwise_cons.1 h.ap).1 s hs; omega) (by omega)
    simp only [sumR, List.length_cons]
    omega
theorem WF.sum {z : Int} {l : List (Int × Int)} (h : WF z l) (hz : 0 ≤ z) : (l.length : Int) ≤ sumR l ∧ sumR l ≤ z := by
  have := sumR_le (lo := 0) h (fun r hr => (h.ok r hr).1) hz
  omega
theorem WF.sum_take {z : Int} {l : List (Int × Int)} (h : WF z l) (hz : 0 ≤ z) (k : Nat) : 0 ≤ sumR (l.take k) ∧ sumR (l.take k) ≤ z := by
  have h' : WF z (l.take k) := by rw [← List.take_append_drop k l] at h; exact h.left
  have := h'.sum hz
  omega

/-- The runs, cut at a sector: those that end by it, and those that end behind it. -/
structure Cut (l l1 l2 : List (Int × Int)) (a : Int) : Prop where
  eq : l = l1 ++ l2
  lo : ∀ r ∈ l1, r.1 + r.2 ≤ a
  hi : ∀ r ∈ l2, a < r.1 + r.2
theorem WF.cut {z : Int} {l : List (Int × Int)} (h : WF z l) (a : Int) : ∃ l1 l2, Cut l l1 l2 a := by
  induction l with
  | nil => exact ⟨[], [], rfl, (fun _ h => by cases h), (fun _ h => by cases h)⟩
  | cons r l ih =>
    by_cases hr : r.1 + r.2 ≤ a
    · obtain ⟨l1, l2, e, h1, h2⟩ := ih h.tail
      exact ⟨r :: l1, l2, by rw [e]; rfl, fun s hs => (List.mem_cons.1 hs).elim (fun e => by rw [e]; exact hr) (h1 s), h2⟩
    · refine ⟨[], r :: l, rfl, (fun _ h => by cases h), fun s hs => ?_⟩
      rcases List.mem_cons.1 hs with rfl | hs
      · omega
      · have := (List.pairwise_cons.1 h.ap).1 s hs
        have := h.ok s (List.mem_cons_of_mem _ hs)
        omega

/-- Is a stretch free? -/
def FreeR (z : Int) (l : List (Int × Int)) (a n : Int) : Prop := 0 ≤ a ∧ 1 ≤ n ∧ a + n ≤ z ∧ ∀ i, a ≤ i → i < a + n → ¬ inR l i
/-- Is a stretch used, all of it? -/
def FullR (l : List (Int × Int)) (a n : Int) : Prop := ∀ i, a ≤ i → i < a + n → inR l i

/-- Behind Take. -/
structure Taken (z : Int) (l : List (Int × Int)) (a n : Int) (l' : List (Int × Int)) : Prop where
  wf : WF z l'
  mem : ∀ i, inR l' i ↔ inR l i ∨ (a ≤ i ∧ i < a + n)
/-- Behind Free. -/
structure Freed (z : Int) (l : List (Int × Int)) (a n : Int) (l' : List (Int × Int)) : Prop where
  wf : WF z l'
  mem : ∀ i, inR l' i ↔ inR l i ∧ ¬ (a ≤ i ∧ i < a + n)
theorem Taken.uniq {z a n : Int} {l m l' m' : List (Int × Int)} (h : Taken z l a n l') (h' : Taken z m a n m') (e : ∀ i, inR l i ↔ inR m i) : l' = m' :=
  h.wf.uniq h'.wf fun i => by rw [h.mem, h'.mem, e]

section
variable {z : Int} {l l1 l2 : List (Int × Int)} {a n : Int}
/-- What lies in the stretch begins with the first run of the second part. -/
theorem Cut.used (hc : Cut l l1 l2 a) {c : Int × Int} {q : List (Int × Int)} (e : l2 = c :: q) (hw : WF z l) (h1 : 1 ≤ n) (h : c.1 < a + n) : ¬ ∀ i, a ≤ i → i < a + n → ¬ inR l i := by
  intro hf
  have hh := hc.hi c (by rw [e]; exact List.mem_cons_self)
  have hcc := hw.ok c (by rw [hc.eq, e]; exact List.mem_append_right _ List.mem_cons_self)
  refine hf (max a c.1) (by omega) (by omega) ?_
  rw [hc.eq, inR_app, e, inR_cons]
  exact .inr (.inl ⟨by omega, by omega⟩)
theorem Cut.free (hc : Cut l l1 l2 a) (h : ∀ c ∈ l2, a + n ≤ c.1) : ∀ i, a ≤ i → i < a + n → ¬ inR l i := by
  intro i h0 h1 hi
  rw [hc.eq, inR_app] at hi
  rcases hi with ⟨r, hr, hi⟩ | ⟨r, hr, hi⟩
  · have := hc.lo r hr; omega
  · have := h r hr; omega
theorem Cut.used_iff (hc : Cut l l1 l2 a) (hw : WF z l) (h1 : 1 ≤ n) (h0 : 0 ≤ a) (hz : a + n ≤ z) : FreeR z l a n ↔ ∀ c ∈ l2, a + n ≤ c.1 := by
  refine ⟨fun h => ?_, fun h => ⟨h0, h1, hz, hc.free h⟩⟩
  cases e : l2 with
  | nil => intro _ h; cases h
  | cons c q =>
    have hcu := fun hlt => hc.used e hw h1 (n := n) hlt h.2.2.2
    have hw2 := hw
    rw [hc.eq, e] at hw2
    have ha := (List.pairwise_cons.1 hw2.right.ap).1
    intro s hs
    have hcc := hw2.right.head
    rcases List.mem_cons.1 hs with rfl | hs
    · exact Int.not_lt.1 hcu
    · have := ha s hs
      have : ¬ c.1 < a + n := hcu
      omega
/-- What is laid in the place of m, between p and q. -/
theorem taken_of {p m q x : List (Int × Int)} (hw : WF z (p ++ (m ++ q))) (hx : WF z x) (h1 : ∀ r ∈ p, ∀ s ∈ x, r.1 + r.2 < s.1) (h2 : ∀ r ∈ x, ∀ s ∈ q, r.1 + r.2 < s.1)
    (h : ∀ i, inR x i ↔ inR m i ∨ (a ≤ i ∧ i < a + n)) : Taken z (p ++ (m ++ q)) a n (p ++ (x ++ q)) :=
  ⟨hw.left.app (hx.app hw.right.right h2) fun r hr s hs => (List.mem_append.1 hs).elim (h1 r hr s) fun hs => hw.mid r hr s (List.mem_append_right _ hs), fun i => by
    rw [inR_app, inR_app, inR_app, inR_app, h]
    constructor
    · rintro (h | (h | h) | h)
      · exact .inl (.inl h)
      · exact .inl (.inr (.inl h))
      · exact .inr h
      · exact .inl (.inr (.inr h))
    · rintro ((h | h | h) | h)
      · exact .inl h
      · exact .inr (.inl (.inl h))
      · exact .inr (.inr h)
      · exact .inr (.inl (.inr h))⟩
theorem freed_of {p m q x : List (Int × Int)} (hw : WF z (p ++ (m ++ q))) (hx : WF z x) (h1 : ∀ r ∈ p, ∀ s ∈ x, r.1 + r.2 < s.1) (h2 : ∀ r ∈ x, ∀ s ∈ q, r.1 + r.2 < s.1)
    (h3 : ∀ i, inR p i → i < a) (h4 : ∀ i, inR q i → a + n ≤ i) (h : ∀ i, inR x i ↔ inR m i ∧ ¬ (a ≤ i ∧ i < a + n)) : Freed z (p ++ (m ++ q)) a n (p ++ (x ++ q)) :=
  ⟨hw.left.app (hx.app hw.right.right h2) fun r hr s hs => (List.mem_append.1 hs).elim (h1 r hr s) fun hs => hw.mid r hr s (List.mem_append_right _ hs), fun i => by
    rw [inR_app, inR_app, inR_app, inR_app, h]
    constructor
    · rintro (h | h | h)
      · have := h3 i h; exact ⟨.inl h, by omega⟩
      · exact ⟨.inr (.inl h.1), h.2⟩
      · have := h4 i h; exact ⟨.inr (.inr h), by omega⟩
    · rintro ⟨h | h | h, h'⟩
      · exact .inl h
      · exact .inr (.inl ⟨h, h'⟩)
      · exact .inr (.inr h)⟩
theorem inR_one (a n i : Int) : inR [(a, n)] i ↔ a ≤ i ∧ i < a + n := by rw [inR_cons]; simp [inR_nil]
/-- Take: nothing touches. -/
theorem Cut.take0 (hc : Cut l l1 l2 a) (hw : WF z l) (hf : FreeR z l a n) (hl : ∀ r ∈ l1, r.1 + r.2 ≠ a) (hr : ∀ r ∈ l2, r.1 ≠ a + n) : Taken z l a n (l1 ++ ([(a, n)] ++ l2)) := by
  have hu := (hc.used_iff hw hf.2.1 hf.1 hf.2.2.1).1 hf
  have := taken_of (p := l1) (m := []) (q := l2) (x := [(a, n)]) (a := a) (n := n) (z := z) (by rw [List.nil_append, ← hc.eq]; exact hw) (WF.one a n hf.1 hf.2.1 hf.2.2.1)
    (fun r hr s hs => by rw [List.mem_singleton.1 hs]; have := hc.lo r hr; have := hl r hr; simp; omega)
    (fun r hr' s hs => by rw [List.mem_singleton.1 hr']; have := hu s hs; have := hr s hs; simp; omega) (fun i => by rw [inR_one]; simp [inR_nil])
  rwa [List.nil_append, ← hc.eq] at this
/-- Take: it touches what is ahead of it. -/
theorem Cut.takeL {p : List (Int × Int)} {b : Int × Int} (hc : Cut l (p ++ [b]) l2 a) (hw : WF z l) (hf : FreeR z l a n) (hb : b.1 + b.2 = a) (hr : ∀ r ∈ l2, r.1 ≠ a + n) : Taken z l a n (p ++ ([(b.1, a + n - b.1)] ++ l2)) := by
  have hu := (hc.used_iff hw hf.2.1 hf.1 hf.2.2.1).1 hf
  have hw2 := hw
  rw [hc.eq, List.append_assoc] at hw2
  have hbb := hw2.ok b (by simp)
  have hn := hf.2.1
  have := taken_of (p := p) (m := [b]) (q := l2) (x := [(b.1, a + n - b.1)]) (a := a) (n := n) hw2 (WF.one _ _ hbb.1 (by omega) (by have := hf.2.2.1; omega))
    (fun r hr s hs => by rw [List.mem_singleton.1 hs]; exact hw2.mid r hr b (by simp))
    (fun r hr' s hs => by rw [List.mem_singleton.1 hr']; have := hu s hs; have := hr s hs; simp; omega) (fun i => by rw [inR_one, inR_one]; omega)
  rwa [← List.append_assoc p [b], ← hc.eq] at this
/-- Take: it touches what is behind it. -/
theorem Cut.takeR {q : List (Int × Int)} {c : Int × Int} (hc : Cut l l1 (c :: q) a) (hw : WF z l) (hf : FreeR z l a n) (hb : c.1 = a + n) (hl : ∀ r ∈ l1, r.1 + r.2 ≠ a) : Taken z l a n (l1 ++ ([(a, c.1 + c.2 - a)] ++ q)) := by
  have hw2 := hw
  rw [hc.eq] at hw2
  have hcc := hw2.right.head
  have hn := hf.2.1
  have := taken_of (p := l1) (m := [c]) (q := q) (x := [(a, c.1 + c.2 - a)]) (a := a) (n := n) hw2 (WF.one _ _ hf.1 (by omega) (by omega))
    (fun r hr s hs => by rw [List.mem_singleton.1 hs]; have := hc.lo r hr; have := hl r hr; simp; omega)
    (fun r hr' s hs => by rw [List.mem_singleton.1 hr']; have := (List.pairwise_cons.1 hw2.right.ap).1 s hs; simp; omega) (fun i => by rw [inR_one, inR_one]; omega)
  rwa [show [c] ++ q = c :: q from rfl, ← hc.eq] at this
/-- Take: it touches both. -/
theorem Cut.takeB {p q : List (Int × Int)} {b c : Int × Int} (hc : Cut l (p ++ [b]) (c :: q) a) (hw : WF z l) (hf : FreeR z l a n) (hb : b.1 + b.2 = a) (hcn : c.1 = a + n) : Taken z l a n (p ++ ([(b.1, c.1 + c.2 - b.1)] ++ q)) := by
  have hw2 := hw
  rw [hc.eq, List.append_assoc] at hw2
  have hbb := hw2.ok b (by simp)
  have hcc := hw2.ok c (by simp)
  have hn := hf.2.1
  have := taken_of (p := p) (m := [b] ++ [c]) (q := q) (x := [(b.1, c.1 + c.2 - b.1)]) (a := a) (n := n) (by simpa using hw2) (WF.one _ _ hbb.1 (by omega) (by omega))
    (fun r hr s hs => by rw [List.mem_singleton.1 hs]; exact hw2.mid r hr b (by simp))
    (fun r hr' s hs => by rw [List.mem_singleton.1 hr']; have := (List.pairwise_cons.1 hw2.right.right.ap).1 s hs; simp; omega) (fun i => by rw [inR_one, inR_app, inR_one, inR_one]; omega)
  have e : p ++ ([b] ++ [c] ++ q) = l := by rw [hc.eq]; simp
  rwa [e] at this
/-- Free: is a stretch in one run? -/
theorem Cut.full_iff (hc : Cut l l1 l2 a) (hw : WF z l) (h1 : 1 ≤ n) : FullR l a n ↔ ∃ c q, l2 = c :: q ∧ c.1 ≤ a ∧ a + n ≤ c.1 + c.2 := by
  have hlo : ∀ i, a ≤ i → inR l i → inR l2 i := fun i hi h => by
    rw [hc.eq, inR_app] at h
    rcases h with ⟨r, hr, h⟩ | h
    · have := hc.lo r hr; omega
    · exact h
  constructor
  · intro h
    have h0 := hlo a (Int.le_refl _) (h a (Int.le_refl _) (by omega))
    have hw2 := hw
    rw [hc.eq] at hw2
    cases e : l2 with
    | nil => rw [e] at h0; exact absurd h0 (inR_nil _)
    | cons c q =>
      rw [e] at h0
      have hh := hc.hi c (by rw [e]; exact List.mem_cons_self)
      have hw3 := hw2.right
      rw [e] at hw3
      have hca : c.1 ≤ a := by
        rcases (inR_cons c q _).1 h0 with h | h
        · exact h.1
        · have := hw3.after h
          have := hw3.head
          omega
      refine ⟨c, q, rfl, hca, Int.not_lt.1 fun hlt => ?_⟩
      have h2 := hlo (c.1 + c.2) (by omega) (h _ (by omega) (by omega))
      rw [e] at h2
      rcases (inR_cons c q _).1 h2 with h | h
      · omega
      · have := hw3.after h; omega
  · rintro ⟨c, q, e, h2, h3⟩ i hi0 hi1
    rw [hc.eq, inR_app, e, inR_cons]
    exact .inr (.inl ⟨by omega, by omega⟩)
/-- The run from one sector on to ahead of another one. -/
def btw (x y : Int) : List (Int × Int) := if x = y then [] else [(x, y - x)]
theorem inR_btw {x y i : Int} : inR (btw x y) i ↔ x ≤ i ∧ i < y := by
  unfold btw
  split
  · simp only [inR_nil, false_iff]; omega
  · rw [inR_one]; omega
theorem WF.btw {x y : Int} (h : x ≤ y) (h0 : 0 ≤ x) (hz : y ≤ z) : WF z (btw x y) := by
  unfold Go.Proofs.Ytoiiaacjpobaeaa.btw
  split
  · exact WF.nil z
  · exact WF.one _ _ h0 (by omega) (by omega)
theorem mem_btw {x y : Int} {r : Int × Int} (h : r ∈ btw x y) : r.1 = x ∧ r.1 + r.2 = y := by
  unfold btw at h
  split at h
  · cases h
  · rw [List.mem_singleton.1 h]; exact ⟨rfl, by show x + (y - x) = y; omega⟩
theorem Cut.freeR {q : List (Int × Int)} {c : Int × Int} (hc : Cut l l1 (c :: q) a) (hw : WF z l) (h1 : 1 ≤ n) (h2 : c.1 ≤ a) (h3 : a + n ≤ c.1 + c.2) : Freed z l a n (l1 ++ ((btw c.1 a ++ btw (a + n) (c.1 + c.2)) ++ q)) := by
  have hw2 := hw
  rw [hc.eq] at hw2
  have hcc := hw2.right.head
  have hx : WF z (btw c.1 a ++ btw (a + n) (c.1 + c.2)) := (WF.btw h2 hcc.1 (by omega)).app (WF.btw h3 (by omega) hcc.2.2) fun r hr s hs => by
    have := mem_btw hr
    have := mem_btw hs
    omega
  have := freed_of (p := l1) (m := [c]) (q := q) (x := btw c.1 a ++ btw (a + n) (c.1 + c.2)) (a := a) (n := n) hw2 hx
    (fun r hr s hs => by
      have hm := hw2.mid r hr c List.mem_cons_self
      rcases List.mem_append.1 hs with hs | hs <;> have := mem_btw hs <;> omega)
    (fun r hr s hs => by
      have hm := (List.pairwise_cons.1 hw2.right.ap).1 s hs
      rcases List.mem_append.1 hr with hr | hr <;> have := mem_btw hr <;> omega)
    (fun i ⟨r, hr, hi⟩ => by have := hw2.mid r hr c List.mem_cons_self; omega)
    (fun i hi => by have := hw2.right.after hi; omega)
    (fun i => by rw [inR_app, inR_btw, inR_btw, inR_one]; omega)
  rwa [show [c] ++ q = c :: q from rfl, ← hc.eq] at this
end
end Go.Proofs.Ytoiiaacjpobaeaa
