/-
  The document's device in memory.
-/
import Derived.Test.YtmkheikllbjcbaaLawDevKeeps
import Derived.Test.YtmkheikllbjcbaaRs
namespace Go.Proofs.Ytmkheikllbjcbaa
open Go.RowKit Go.Maps

/-- Block g is a row of room for c texts, of which the first are l. -/
structure Strs (w : World) (g c : Nat) (l : List Sec) : Prop where
  shape : ∃ cur : Array Value, w.heap[g]? = some (.cells cur 9 (0, 0)) ∧ cur.size = c
  cells : ∀ j, j < l.length → w.cell? ⟨g, j, none⟩ = some (.string (strOf (l.getD j [])))
  le : l.length ≤ c
  cap : c ≤ maxLen
theorem Strs.lt {w : World} {g c : Nat} {l : List Sec} (h : Strs w g c l) : g < w.heap.size := by
  obtain ⟨cur, h1, _⟩ := h.shape
  exact (Array.getElem?_eq_some_iff.1 h1).1
theorem Strs.frozen {w : World} {g c : Nat} {l : List Sec} (h : Strs w g c l) (o : Nat) : w.frozen? ⟨g, o, none⟩ = false := by
  obtain ⟨cur, h1, _⟩ := h.shape
  simp [World.frozen?, h1]
theorem Strs.same {w w' : World} {g c : Nat} {l : List Sec} (h : Strs w g c l) (hb : w'.heap[g]? = w.heap[g]?) : Strs w' g c l := by
  obtain ⟨⟨cur, h1, h2⟩, h3, h4, h5⟩ := h
  exact ⟨⟨cur, hb.trans h1, h2⟩, fun j hj => by rw [World.cell?_of_block (w := w) hb]; exact h3 j hj, h4, h5⟩
theorem setCell_block {w : World} {g : Nat} {cur : Array Value} {t : TypeId} (h : w.heap[g]? = some (.cells cur t (0, 0))) (o : Nat) (v : Value) : (w.setCell ⟨g, o, none⟩ v).heap[g]? = some (.cells (cur.setIfInBounds o v) t (0, 0)) := by
  simp [World.setCell, Array.getElem?_modify, h]
theorem Strs.set {w : World} {g c : Nat} {l : List Sec} (h : Strs w g c l) (i : Nat) (hi : i < l.length) (x : Sec) : Strs (w.setCell ⟨g, i, none⟩ (.string (strOf x))) g c (l.set i x) := by
  obtain ⟨⟨cur, h1, h2⟩, h3, h4, h5⟩ := h
  refine ⟨⟨_, setCell_block h1 i _, by simp [h2]⟩, fun j hj => ?_, by simpa using h4, h5⟩
  rw [List.length_set] at hj
  rw [getD_set _ _ _ _ hi]
  by_cases e : j = i
  · subst e
    rw [World.cell?_setCell_same _ _ _ (h3 j hj), if_pos rfl]
  · rw [World.cell?_setCell_other _ _ _ _ (by intro h; injection h with _ h _; omega), if_neg e]
    exact h3 j hj
def strCells (l : List Sec) : List Value := l.map fun x => .string (strOf x)
theorem Strs.owns {w : World} {g c : Nat} {l : List Sec} (h : Strs w g c l) (B : Nat) (hB : B ≤ g) : w.ownsRow B 9 1 (.slice (some ⟨g, 0, none⟩) l.length c) l.length (strCells l) := by
  obtain ⟨⟨cur, h1, h2⟩, h3, h4, h5⟩ := h
  refine ⟨by simp [strCells], .inr ⟨g, c, cur, rfl, hB, h1, h4, h5, by omega, ?_⟩⟩
  apply List.ext_getElem?
  intro k
  by_cases hk : k < l.length
  · rw [List.getElem?_take_of_lt (by omega), strCells, List.getElem?_map, List.getElem?_eq_getElem hk]
    have := h3 k hk
    rw [List.getD_eq_getElem?_getD, List.getElem?_eq_getElem hk] at this
    simpa [World.cell?, h1] using this
  · rw [List.getElem?_eq_none (by rw [List.length_take]; omega), List.getElem?_eq_none (by simp [strCells]; omega)]
theorem strs_of_owns {w : World} {B g c n : Nat} {l : List Sec} (hn : l.length = n) (h : w.ownsRow B 9 1 (.slice (some ⟨g, 0, none⟩) n c) n (strCells l)) : Strs w g c l := by
  subst hn
  have hcells := fun g hg => World.ownsRow.cells (g := g) h hg
  rcases h.2 with ⟨h0, _⟩ | ⟨g', c', cur, hv, hB, h1, h4, h5, h2, h3⟩
  · cases h0
  · cases hv
    refine ⟨⟨cur, h1, by omega⟩, fun j hj => ?_, h4, h5⟩
    have := hcells g rfl j (.string (strOf (l.getD j []))) (by rw [strCells, List.getElem?_map, List.getElem?_eq_getElem hj, List.getD_eq_getElem?_getD, List.getElem?_eq_getElem hj]; rfl)
    rw [Go.WideShapes.add_plain, Nat.zero_add] at this
    exact this

/-- Block g is a row of room for c slices of texts, of which the first n have the heads f. -/
structure Sin (w : World) (g c n : Nat) (f : Nat → Hd) : Prop where
  shape : ∃ cur : Array Value, w.heap[g]? = some (.cells cur 42 (0, 0)) ∧ cur.size = c
  cells : ∀ j, j < n → w.cell? ⟨g, j, none⟩ = some (f j).val
  le : n ≤ c
  cap : c ≤ maxLen
theorem Sin.lt {w : World} {g c n : Nat} {f : Nat → Hd} (h : Sin w g c n f) : g < w.heap.size := by
  obtain ⟨cur, h1, _⟩ := h.shape
  exact (Array.getElem?_eq_some_iff.1 h1).1
theorem Sin.frozen {w : World} {g c n : Nat} {f : Nat → Hd} (h : Sin w g c n f) (o : Nat) : w.frozen? ⟨g, o, none⟩ = false := by
  obtain ⟨cur, h1, _⟩ := h.shape
  simp [World.frozen?, h1]
theorem Sin.same {w w' : World} {g c n : Nat} {f : Nat → Hd} (h : Sin w g c n f) (hb : w'.heap[g]? = w.heap[g]?) : Sin w' g c n f := by
  obtain ⟨⟨cur, h1, h2⟩, h3, h4, h5⟩ := h
  exact ⟨⟨cur, hb.trans h1, h2⟩, fun j hj => by rw [World.cell?_of_block (w := w) hb]; exact h3 j hj, h4, h5⟩
theorem Sin.congr {w : World} {g c n : Nat} {f f' : Nat → Hd} (h : Sin w g c n f) (e : ∀ j, j < n → f j = f' j) : Sin w g c n f' :=
  ⟨h.shape, fun j hj => by rw [← e j hj]; exact h.cells j hj, h.le, h.cap⟩
theorem Sin.set {w : World} {g c n : Nat} {f : Nat → Hd} (h : Sin w g c n f) (i : Nat) (hi : i < n) (x : Hd) : Sin (w.setCell ⟨g, i, none⟩ x.val) g c n (fun j => if j = i then x else f j) := by
  obtain ⟨⟨cur, h1, h2⟩, h3, h4, h5⟩ := h
  refine ⟨⟨_, setCell_block h1 i _, by simp [h2]⟩, fun j hj => ?_, h4, h5⟩
  by_cases e : j = i
  · subst e
    rw [World.cell?_setCell_same _ _ _ (h3 j hj), if_pos rfl]
  · rw [World.cell?_setCell_other _ _ _ _ (by intro h; injection h with _ h _; omega), if_neg e]
    exact h3 j hj
def sinCells (n : Nat) (f : Nat → Hd) : List Value := (List.range n).map fun i => (f i).val
theorem sin_of_owns {w : World} {B g c n : Nat} {f : Nat → Hd} (h : w.ownsRow B 42 1 (.slice (some ⟨g, 0, none⟩) n c) n (sinCells n f)) : Sin w g c n f := by
  have hcells := fun g hg => World.ownsRow.cells (g := g) h hg
  rcases h.2 with ⟨h0, _⟩ | ⟨g', c', cur, hv, hB, h1, h4, h5, h2, h3⟩
  · cases h0
  · cases hv
    refine ⟨⟨cur, h1, by omega⟩, fun j hj => ?_, h4, h5⟩
    have := hcells g rfl j (f j).val (by rw [sinCells, List.getElem?_map, List.getElem?_range hj]; rfl)
    rw [Go.WideShapes.add_plain, Nat.zero_add] at this
    exact this

def rvOf (R : Dv) (hd : Nat → Nat × Nat) (i : Nat) : Hd := if R.since i = [] then none else some ((hd i).1, (R.since i).length, (hd i).2)
def fuseV (R : Dv) : Int := if R.fused then (R.left : Int) else -1
def refCells (R : Dv) (mb mc sb sc : Nat) : Array Value := #[.slice (some ⟨mb, 0, none⟩) R.med.length mc, .slice (some ⟨sb, 0, none⟩) R.med.length sc, .bool R.lost, .int .i64 (fuseV R)]
/-- The document's device R, by value. -/
structure RefV (w : World) (mb mc sb sc : Nat) (hd : Nat → Nat × Nat) (R : Dv) (rp : Nat → Prop) : Prop where
  ok : DvOk R
  med : Strs w mb mc R.med
  sin : Sin w sb sc R.med.length (rvOf R hd)
  vers : ∀ i, R.since i ≠ [] → Strs w (hd i).1 (hd i).2 (R.since i)
  inj : ∀ i j, R.since i ≠ [] → R.since j ≠ [] → (hd i).1 = (hd j).1 → i = j
  apart : ∀ i, R.since i ≠ [] → (hd i).1 ≠ mb
  fm : rp mb
  fs : rp sb
  fv : ∀ i, R.since i ≠ [] → rp (hd i).1
  lt : ∀ k, rp k → k < w.heap.size
/-- The document's device R, in a variable: block rb. -/
structure RefIn (w : World) (rb mb mc sb sc : Nat) (hd : Nat → Nat × Nat) (R : Dv) (rp : Nat → Prop) : Prop where
  v : RefV w mb mc sb sc hd R rp
  blk : w.heap[rb]? = some (.cells (refCells R mb mc sb sc) 45 (0, 0))
  fb : rp rb

section
variable {w : World} {rb mb mc sb sc : Nat} {hd : Nat → Nat × Nat} {R : Dv} {rp : Nat → Prop}
theorem RefV.sm (h : RefV w mb mc sb sc hd R rp) : sb ≠ mb := by
  intro e
  obtain ⟨cur, h1, _⟩ := h.med.shape
  obtain ⟨cur', h2, _⟩ := h.sin.shape
  rw [e, h1] at h2
  cases h2
theorem RefV.sv (h : RefV w mb mc sb sc hd R rp) (i : Nat) (hi : R.since i ≠ []) : sb ≠ (hd i).1 := by
  intro e
  obtain ⟨cur, h1, _⟩ := (h.vers i hi).shape
  obtain ⟨cur', h2, _⟩ := h.sin.shape
  rw [e, h1] at h2
  cases h2
theorem RefIn.rm (h : RefIn w rb mb mc sb sc hd R rp) : rb ≠ mb := by
  intro e
  obtain ⟨cur, h1, _⟩ := h.v.med.shape
  have := h.blk
  rw [e, h1] at this
  cases this
theorem RefIn.rs (h : RefIn w rb mb mc sb sc hd R rp) : rb ≠ sb := by
  intro e
  obtain ⟨cur, h1, _⟩ := h.v.sin.shape
  have := h.blk
  rw [e, h1] at this
  cases this
theorem RefIn.rv (h : RefIn w rb mb mc sb sc hd R rp) (i : Nat) (hi : R.since i ≠ []) : rb ≠ (hd i).1 := by
  intro e
  obtain ⟨cur, h1, _⟩ := (h.v.vers i hi).shape
  have := h.blk
  rw [e, h1] at this
  cases this
theorem RefIn.c0 (h : RefIn w rb mb mc sb sc hd R rp) : w.cell? ⟨rb, 0, none⟩ = some (.slice (some ⟨mb, 0, none⟩) R.med.length mc) := by simp [World.cell?, h.blk, refCells]
theorem RefIn.c1 (h : RefIn w rb mb mc sb sc hd R rp) : w.cell? ⟨rb, 1, none⟩ = some (.slice (some ⟨sb, 0, none⟩) R.med.length sc) := by simp [World.cell?, h.blk, refCells]
theorem RefIn.c2 (h : RefIn w rb mb mc sb sc hd R rp) : w.cell? ⟨rb, 2, none⟩ = some (.bool R.lost) := by simp [World.cell?, h.blk, refCells]
theorem RefIn.c3 (h : RefIn w rb mb mc sb sc hd R rp) : w.cell? ⟨rb, 3, none⟩ = some (.int .i64 (fuseV R)) := by simp [World.cell?, h.blk, refCells]
theorem RefIn.fr (h : RefIn w rb mb mc sb sc hd R rp) (o : Nat) : w.frozen? ⟨rb, o, none⟩ = false := by simp [World.frozen?, h.blk]
theorem RefV.same (h : RefV w mb mc sb sc hd R rp) {w' : World} (hz : w.heap.size ≤ w'.heap.size) (ho : ∀ k, rp k → w'.heap[k]? = w.heap[k]?) : RefV w' mb mc sb sc hd R rp :=
  ⟨h.ok, h.med.same (ho _ h.fm), h.sin.same (ho _ h.fs), fun i hi => (h.vers i hi).same (ho _ (h.fv i hi)), h.inj, h.apart, h.fm, h.fs, h.fv, fun k hk => Nat.lt_of_lt_of_le (h.lt k hk) hz⟩
theorem RefV.below (h : RefV w mb mc sb sc hd R rp) {w' : World} (hb : Below w.heap.size w w') : RefV w' mb mc sb sc hd R rp := h.same hb.size fun k hk => hb.block k (h.lt k hk)
theorem RefIn.same (h : RefIn w rb mb mc sb sc hd R rp) {w' : World} (hz : w.heap.size ≤ w'.heap.size) (ho : ∀ k, rp k → w'.heap[k]? = w.heap[k]?) : RefIn w' rb mb mc sb sc hd R rp :=
  ⟨h.v.same hz ho, (ho _ h.fb).trans h.blk, h.fb⟩
/-- Fields of the variable alone have turned. -/
theorem RefIn.field (h : RefIn w rb mb mc sb sc hd R rp) (R' : Dv) (e1 : R'.med = R.med) (e2 : R'.since = R.since) (ok : DvOk R') (w' : World) (hz : w'.heap.size = w.heap.size)
    (hb : w'.heap[rb]? = some (.cells (refCells R' mb mc sb sc) 45 (0, 0))) (ho : ∀ k, k ≠ rb → w'.heap[k]? = w.heap[k]?) : RefIn w' rb mb mc sb sc hd R' rp := by
  obtain ⟨med', since', lost', fused', left', cnt'⟩ := R'
  simp only at e1 e2
  subst e1 e2
  exact ⟨⟨ok, h.v.med.same (ho _ h.rm.symm), h.v.sin.same (ho _ h.rs.symm), fun i hi => (h.v.vers i hi).same (ho _ (h.rv i hi).symm), h.v.inj, h.v.apart, h.v.fm, h.v.fs, h.v.fv, fun k hk => by rw [hz]; exact h.v.lt k hk⟩, hb, h.fb⟩
theorem RefIn.set2 (h : RefIn w rb mb mc sb sc hd R rp) (x : Bool) : RefIn (w.setCell ⟨rb, 2, none⟩ (.bool x)) rb mb mc sb sc hd { R with lost := x } rp :=
  h.field { R with lost := x } rfl rfl ⟨h.v.ok.n1, h.v.ok.n2, h.v.ok.out, h.v.ok.left, h.v.ok.cnts⟩ _ (by simp [World.setCell]) (by rw [setCell_block h.blk]; simp [refCells, fuseV]) fun k hk => Below.heap_setCell _ _ _ _ hk
theorem RefIn.set3 (h : RefIn w rb mb mc sb sc hd R rp) (R' : Dv) (e1 : R'.med = R.med) (e2 : R'.since = R.since) (e3 : R'.lost = R.lost) (ok : DvOk R') : RefIn (w.setCell ⟨rb, 3, none⟩ (.int .i64 (fuseV R'))) rb mb mc sb sc hd R' rp := by
  refine h.field R' e1 e2 ok _ (by simp [World.setCell]) ?_ fun k hk => Below.heap_setCell _ _ _ _ hk
  rw [setCell_block h.blk]
  simp [refCells, e1, e3]
/-- A text on the medium is turned. -/
theorem RefIn.medSet (h : RefIn w rb mb mc sb sc hd R rp) (k : Nat) (hk : k < R.med.length) (x : Sec) : RefIn (w.setCell ⟨mb, k, none⟩ (.string (strOf x))) rb mb mc sb sc hd { R with med := R.med.set k x } rp := by
  have ho : ∀ j, j ≠ mb → (w.setCell ⟨mb, k, none⟩ (.string (strOf x))).heap[j]? = w.heap[j]? := fun j hj => Below.heap_setCell _ _ _ _ hj
  have e : (R.med.set k x).length = R.med.length := List.length_set
  refine ⟨⟨⟨by rw [e]; exact h.v.ok.n1, by rw [e]; exact h.v.ok.n2, fun i hi => h.v.ok.out i (by rw [← e]; exact hi), h.v.ok.left, h.v.ok.cnts⟩, h.v.med.set k hk x, ?_, fun i hi => (h.v.vers i hi).same (ho _ (h.v.apart i hi)), h.v.inj, h.v.apart, h.v.fm, h.v.fs, h.v.fv, fun j hj => by simpa [World.setCell] using h.v.lt j hj⟩, ?_, h.fb⟩
  · have := h.v.sin.same (ho _ h.v.sm)
    show Sin _ sb sc (R.med.set k x).length _
    rw [e]
    exact this
  · rw [ho _ h.rm, h.blk]
    unfold refCells fuseV
    rw [e]
/-- The last of what was written since is turned. -/
theorem RefIn.verSet (h : RefIn w rb mb mc sb sc hd R rp) (k : Nat) (hk : R.since k ≠ []) (j : Nat) (hj : j < (R.since k).length) (x : Sec) :
    RefIn (w.setCell ⟨(hd k).1, j, none⟩ (.string (strOf x))) rb mb mc sb sc hd { R with since := fun i => if i = k then (R.since k).set j x else R.since i } rp := by
  have ho : ∀ i, i ≠ (hd k).1 → (w.setCell ⟨(hd k).1, j, none⟩ (.string (strOf x))).heap[i]? = w.heap[i]? := fun i hi => Below.heap_setCell _ _ _ _ hi
  have hs : ∀ i, (if i = k then (R.since k).set j x else R.since i) = [] ↔ R.since i = [] := fun i => by
    by_cases e : i = k
    · subst e; simp
    · simp [e]
  have hl : ∀ i, (if i = k then (R.since k).set j x else R.since i).length = (R.since i).length := fun i => by
    by_cases e : i = k
    · subst e; simp
    · simp [e]
  refine ⟨⟨⟨h.v.ok.n1, h.v.ok.n2, fun i hi => (hs i).2 (h.v.ok.out i hi), h.v.ok.left, fun i => ?_⟩, h.v.med.same (ho _ (h.v.apart k hk).symm), (h.v.sin.same (ho _ (h.v.sv k hk))).congr fun i _ => ?_, fun i hi => ?_, fun i i' hi hi' => ?_, fun i hi => ?_, h.v.fm, h.v.fs, fun i hi => ?_, fun j hj => by simpa [World.setCell] using h.v.lt j hj⟩, ?_, h.fb⟩
  · simp only [hl]; exact h.v.ok.cnts i
  · unfold rvOf
    simp only [hs, hl]
  · have hi' : R.since i ≠ [] := fun e => hi ((hs i).2 e)
    by_cases e : i = k
    · subst e
      simp only [if_true]
      exact (h.v.vers i hi').set j hj x
    · simp only [if_neg e]
      exact (h.v.vers i hi').same (ho _ fun e' => e (h.v.inj i k hi' hk e'))
  · exact h.v.inj i i' (fun e => hi ((hs i).2 e)) (fun e => hi' ((hs i').2 e))
  · exact h.v.apart i (fun e => hi ((hs i).2 e))
  · exact h.v.fv i (fun e => hi ((hs i).2 e))
  · rw [ho _ (h.rv k hk), h.blk]
    rfl
/-- What was written since to a sector is struck. -/
theorem RefIn.strike (h : RefIn w rb mb mc sb sc hd R rp) (k : Nat) (hk : k < R.med.length) : RefIn (w.setCell ⟨sb, k, none⟩ (.slice none 0 0)) rb mb mc sb sc hd { R with since := fun i => if i = k then [] else R.since i } rp := by
  have ho : ∀ i, i ≠ sb → (w.setCell ⟨sb, k, none⟩ (.slice none 0 0)).heap[i]? = w.heap[i]? := fun i hi => Below.heap_setCell _ _ _ _ hi
  have hs : ∀ i, (if i = k then [] else R.since i) ≠ [] → i ≠ k ∧ R.since i ≠ [] := fun i hi => by
    by_cases e : i = k
    · simp [e] at hi
    · simp [e] at hi; exact ⟨e, hi⟩
  refine ⟨⟨⟨h.v.ok.n1, h.v.ok.n2, fun i hi => ?_, h.v.ok.left, fun i => ?_⟩, h.v.med.same (ho _ h.v.sm.symm), ?_, fun i hi => ?_, fun i i' hi hi' => h.v.inj i i' (hs i hi).2 (hs i' hi').2, fun i hi => h.v.apart i (hs i hi).2, h.v.fm, h.v.fs, fun i hi => h.v.fv i (hs i hi).2, fun j hj => by simpa [World.setCell] using h.v.lt j hj⟩, ?_, h.fb⟩
  · show (if i = k then [] else R.since i) = []
    split
    · rfl
    · exact h.v.ok.out i hi
  · show (if i = k then [] else R.since i).length ≤ R.cnt
    split
    · exact Nat.zero_le _
    · exact h.v.ok.cnts i
  · refine (h.v.sin.set k hk none).congr fun i _ => ?_
    unfold rvOf
    by_cases e : i = k
    · simp [e]
    · simp [e]
  · obtain ⟨e, hi'⟩ := hs i hi
    simp only [if_neg e]
    exact (h.v.vers i hi').same (ho _ (h.v.sv i hi').symm)
  · rw [ho _ h.rs, h.blk]
    rfl
end
end Go.Proofs.Ytmkheikllbjcbaa
