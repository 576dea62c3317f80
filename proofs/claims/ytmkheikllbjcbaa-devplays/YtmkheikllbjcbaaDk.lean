/-
  Sectors in memory: rows of them; a map of slices of them, by what the slices' heads are.
-/
import Derived.Test.YtmkheikllbjcbaaKit
import Derived.Maps.RangeWalk
import Derived.Deep.MidRow
import Derived.Laws.AppendOwn
import Derived.Laws.OwnMore
namespace Go.Proofs.Ytmkheikllbjcbaa
open Go.RowKit Go.Maps

abbrev Sec := List UInt8
def secCells (s : Sec) : List Value := s.map fun b => .int .u8 (b.toNat : Int)
def flat (l : List Sec) : List Value := l.flatMap secCells

theorem secCells_len (s : Sec) : (secCells s).length = s.length := by simp [secCells]
theorem secCells_one (s : Sec) : ∀ v ∈ secCells s, v.oneCell' = true := by
  intro v hv
  obtain ⟨b, _, rfl⟩ := List.mem_map.1 hv
  rfl
theorem flat_one (l : List Sec) : ∀ v ∈ flat l, v.oneCell' = true := by
  intro v hv
  obtain ⟨s, _, h⟩ := List.mem_flatMap.1 hv
  exact secCells_one s v h
theorem flat_len (l : List Sec) (h : ∀ s ∈ l, s.length = 64) : (flat l).length = l.length * 64 := by
  induction l with
  | nil => rfl
  | cons s r ih =>
    have h1 := ih fun x hx => h x (List.mem_cons_of_mem _ hx)
    have h2 := h s List.mem_cons_self
    simp only [flat, List.flatMap_cons, List.length_append, secCells_len, h2, List.length_cons] at h1 ⊢
    omega
theorem flat_app (l m : List Sec) : flat (l ++ m) = flat l ++ flat m := by simp [flat]
theorem flat_at (l : List Sec) (h : ∀ s ∈ l, s.length = 64) (i : Nat) (hi : i < l.length) (j : Nat) (hj : j < 64) : (flat l)[i * 64 + j]? = (secCells l[i])[j]? := by
  induction l generalizing i with
  | nil => simp at hi
  | cons s r ih =>
    have h2 := h s List.mem_cons_self
    cases i with
    | zero =>
      simp only [flat, List.flatMap_cons, List.getElem_cons_zero, Nat.zero_mul, Nat.zero_add]
      rw [List.getElem?_append_left (by rw [secCells_len]; omega)]
    | succ i =>
      simp only [flat, List.flatMap_cons, List.getElem_cons_succ]
      rw [List.getElem?_append_right (by rw [secCells_len]; omega), secCells_len, h2, show (i + 1) * 64 + j - 64 = i * 64 + j by omega]
      exact ih (fun x hx => h x (List.mem_cons_of_mem _ hx)) i (by simpa using hi)
/-- Block g is a row with room for c sectors. -/
def Shape (w : World) (g c : Nat) : Prop := ∃ cur : Array Value, w.heap[g]? = some (.cells cur 64 (0, 0)) ∧ cur.size = c * 64
theorem Shape.setCell {w : World} {g c : Nat} (h : Shape w g c) (a : Addr) (v : Value) : Shape (w.setCell a v) g c := by
  obtain ⟨cur, h1, h2⟩ := h
  by_cases e : a.block = g
  · refine ⟨if a.spot.isSome then cur else cur.setIfInBounds a.off v, ?_, ?_⟩
    · simp only [World.setCell, Array.getElem?_modify, e, if_true, h1]
      simp
    · split <;> simp [h2]
  · exact ⟨cur, by rw [Below.heap_setCell _ _ _ _ (fun e' => e e'.symm)]; exact h1, h2⟩
theorem Shape.setCells {g c : Nat} (b : Nat) : ∀ (vs : List Value) (o : Nat) (w : World), Shape w g c → Shape (w.setCells b o vs) g c
  | [], _, _, h => h
  | v :: r, o, _, h => Shape.setCells b r (o + 1) _ (h.setCell _ v)
theorem Shape.frozen {w : World} {g c : Nat} (h : Shape w g c) (o : Nat) : w.frozen? ⟨g, o, none⟩ = false := by
  obtain ⟨cur, h1, _⟩ := h
  simp [World.frozen?, h1]
theorem Shape.lt {w : World} {g c : Nat} (h : Shape w g c) : g < w.heap.size := by
  obtain ⟨cur, h1, _⟩ := h
  exact (Array.getElem?_eq_some_iff.1 h1).1

/-- Block g is a row with room for c sectors, of which the first are l. -/
structure Rows (w : World) (g c : Nat) (l : List Sec) : Prop where
  shape : Shape w g c
  cells : ∀ i (h : i < l.length) j, j < 64 → w.cell? ⟨g, i * 64 + j, none⟩ = (secCells l[i])[j]?
  le : l.length ≤ c
  cap : c ≤ maxLen
  len : ∀ s ∈ l, s.length = 64

theorem Rows.at_ {w : World} {g c : Nat} {l : List Sec} (h : Rows w g c l) (i : Nat) (hi : i < l.length) : l[i].length = 64 := h.len _ (List.getElem_mem hi)
theorem Rows.range {w : World} {g c : Nat} {l : List Sec} (h : Rows w g c l) (i : Nat) (hi : i < l.length) : w.rangeAt g (i * 64) (secCells l[i]) := fun j v hv => by
  have hj : j < 64 := by
    have := (List.getElem?_eq_some_iff.1 hv).1
    rw [secCells_len, h.at_ i hi] at this
    exact this
  rw [h.cells i hi j hj, hv]
theorem Rows.there {w : World} {g c : Nat} {l : List Sec} (h : Rows w g c l) (i : Nat) (hi : i < l.length) : w.there g (i * 64) 64 := fun j hj => by
  refine ⟨?_, h.shape.frozen _⟩
  rw [h.cells i hi j hj, List.getElem?_eq_getElem (by rw [secCells_len, h.at_ i hi]; exact hj)]
  rfl
theorem Rows.byte {w : World} {g c : Nat} {l : List Sec} (h : Rows w g c l) (i : Nat) (hi : i < l.length) (j : Nat) (hj : j < 64) : w.cell? ⟨g, i * 64 + j, none⟩ = some (.int .u8 ((l[i].getD j 0).toNat : Int)) := by
  have h1 := h.at_ i hi
  rw [h.cells i hi j hj, secCells, List.getElem?_map, List.getElem?_eq_getElem (by omega), List.getD_eq_getElem?_getD, List.getElem?_eq_getElem (by omega)]
  rfl
theorem Rows.setCells {w : World} {g c : Nat} {l : List Sec} (h : Rows w g c l) (i : Nat) (hi : i < l.length) (x : Sec) (hx : x.length = 64) : Rows (w.setCells g (i * 64) (secCells x)) g c (l.set i x) := by
  refine ⟨h.shape.setCells _ _ _ _, fun k hk j hj => ?_, by simpa using h.le, h.cap, fun s hs => ?_⟩
  · rw [List.length_set] at hk
    by_cases e : i = k
    · subst e
      rw [World.cell?_setCells_in g (secCells x) (i * 64) w (fun j hj => (h.there i hi j (by rw [secCells_len] at hj; omega)).1) j (by rw [secCells_len]; omega)]
      rw [List.getElem_set_self, List.getElem?_eq_getElem (by rw [secCells_len]; omega)]
    · rw [World.cell?_setCells_out g (secCells x) (i * 64) w _ (fun _ _ => by simp only [secCells_len]; omega), List.getElem_set_ne e]
      exact h.cells k hk j hj
  · rcases List.mem_or_eq_of_mem_set hs with h1 | rfl
    · exact h.len s h1
    · exact hx
theorem Rows.setCell {w : World} {g c : Nat} {l : List Sec} (h : Rows w g c l) (i : Nat) (hi : i < l.length) (j : Nat) (hj : j < 64) (b : UInt8) : Rows (w.setCell ⟨g, i * 64 + j, none⟩ (.int .u8 (b.toNat : Int))) g c (l.set i (l[i].set j b)) := by
  have hl := h.at_ i hi
  refine ⟨h.shape.setCell _ _, fun k hk m hm => ?_, by simpa using h.le, h.cap, fun s hs => ?_⟩
  · rw [List.length_set] at hk
    by_cases e : i = k
    · subst e
      rw [List.getElem_set_self]
      by_cases e2 : j = m
      · subst e2
        rw [World.cell?_setCell_same _ _ _ (h.byte i hi j hj), secCells, List.getElem?_map, List.getElem?_set_self (by omega)]
        rfl
      · rw [World.cell?_setCell_other _ _ _ _ (by intro h; injection h with _ h _; omega), h.cells i hk m hm, secCells, secCells, List.getElem?_map, List.getElem?_map, List.getElem?_set_ne e2]
    · rw [World.cell?_setCell_other _ _ _ _ (by intro h; injection h with _ h _; omega), List.getElem_set_ne e]
      exact h.cells k hk m hm
  · rcases List.mem_or_eq_of_mem_set hs with h1 | rfl
    · exact h.len s h1
    · rw [List.length_set]; exact hl
theorem Rows.same {w w' : World} {g c : Nat} {l : List Sec} (h : Rows w g c l) (hb : w'.heap[g]? = w.heap[g]?) : Rows w' g c l := by
  obtain ⟨⟨cur, h1, h2⟩, h3, h4, h5, h6⟩ := h
  exact ⟨⟨cur, hb.trans h1, h2⟩, fun i hi j hj => by rw [World.cell?_of_block (w := w) hb]; exact h3 i hi j hj, h4, h5, h6⟩
theorem Rows.lt {w : World} {g c : Nat} {l : List Sec} (h : Rows w g c l) : g < w.heap.size := h.shape.lt
theorem Rows.owns {w : World} {g c : Nat} {l : List Sec} (h : Rows w g c l) (B : Nat) (hB : B ≤ g) : w.ownsRow B 64 64 (.slice (some ⟨g, 0, none⟩) l.length c) l.length (flat l) := by
  obtain ⟨⟨cur, h1, h2⟩, h3, h4, h5, h6⟩ := h
  refine ⟨flat_len l h6, .inr ⟨g, c, cur, rfl, hB, h1, h4, h5, h2, ?_⟩⟩
  apply List.ext_getElem?
  intro k
  by_cases hk : k < l.length * 64
  · have e : k = k / 64 * 64 + k % 64 := by omega
    have hi : k / 64 < l.length := by omega
    rw [List.getElem?_take_of_lt hk, e, flat_at l h6 _ hi _ (by omega), ← h3 _ hi _ (by omega)]
    simp [World.cell?, h1]
  · rw [List.getElem?_eq_none (by rw [List.length_take]; omega), List.getElem?_eq_none (by rw [flat_len l h6]; omega)]
theorem rows_of_owns {w : World} {B g c n : Nat} {l : List Sec} (hn : l.length = n) (h : w.ownsRow B 64 64 (.slice (some ⟨g, 0, none⟩) n c) n (flat l)) (h6 : ∀ s ∈ l, s.length = 64) : Rows w g c l := by
  subst hn
  rcases h.2 with ⟨h0, _⟩ | ⟨g', c', cur, hv, hB, h1, h4, h5, h2, h3⟩
  · cases h0
  · cases hv
    refine ⟨⟨cur, h1, h2⟩, fun i hi j hj => ?_, h4, h5, h6⟩
    rw [← flat_at l h6 i hi j hj, ← h3, List.getElem?_take_of_lt (by omega)]
    simp [World.cell?, h1]

/-- A slice of sectors, by its head. -/
abbrev Hd := Option (Nat × Nat × Nat)
def Hd.val : Hd → Value
  | none => .slice none 0 0
  | some (g, n, c) => .slice (some ⟨g, 0, none⟩) n c
def Hd.dat : Hd → DataW Unit
  | none => .nil
  | some (g, n, c) => .agg [.lit (.int .u64 g), .lit (.int .u64 n), .lit (.int .u64 c)]
def hdr : Value → Option (DataW Unit × List MemPlace)
  | .slice (some ⟨g, 0, none⟩) n c => some (Hd.dat (some (g, n, c)), [])
  | .slice none 0 0 => some (Hd.dat none, [])
  | _ => none
theorem hdr_val (h : Hd) : hdr h.val = some (h.dat, []) := by
  cases h <;> rfl
theorem hdr_inv {v : Value} {z : DataW Unit × List MemPlace} (h : hdr v = some z) : ∃ x : Hd, v = x.val ∧ z = (x.dat, []) := by
  unfold hdr at h
  split at h
  · rename_i g n c
    cases h; exact ⟨some (g, n, c), rfl, rfl⟩
  · cases h; exact ⟨none, rfl, rfl⟩
  · cases h
theorem dat_inj {a b : Hd} (h : a.dat = b.dat) : a = b := by
  rcases a with _ | ⟨g, n, c⟩ <;> rcases b with _ | ⟨g', n', c'⟩ <;> simp [Hd.dat] at h ⊢
  · omega

theorem law : Keyed Try.prog 3 := int_keyed Try.underlying3
theorem zeroS (w : World) : (zeroValue 58).run Try.prog w = .ok (.slice none 0 0) w := by kernel_rfl
theorem keyI (k : Int) (h : (Lit.int .i64 k).wf = true) : keyOf Try.prog 3 (.int .i64 k) = some (.int .i64 k) := keyOf_int_mk Try.underlying3 h
theorem isKey (k : Int) (h : (Lit.int .i64 k).wf = true) : WideAt.IsKeyLit (.int .i64 k) := law.key (keyI k h)
theorem wfN (k : Nat) (h : k < 9223372036854775808) : (Lit.int .i64 (k : Int)).wf = true := WalkArith.wf_i64 (by omega)

/-- Block b is a map of at most n slices of sectors: at k the one with the head f k. -/
def CMap (w : World) (b n : Nat) (f : Int → Hd) : Prop :=
  ∃ D : DataW Unit, w.ownsMap Try.prog 3 hdr b n D ∧ (∀ k, (Lit.int .i64 k).wf = true → D.atKey (.int .i64 k) .nil = (f k).dat) ∧ ∀ k, (Lit.int .i64 k).wf = true → has D (.int .i64 k) = (f k).isSome

theorem CMap.lt {w : World} {b n : Nat} {f : Int → Hd} (h : CMap w b n f) : b < w.heap.size := by
  obtain ⟨D, h1, _⟩ := h
  exact h1.lt
theorem CMap.same {w w' : World} {b n : Nat} {f : Int → Hd} (h : CMap w b n f) (hb : w'.heap[b]? = w.heap[b]?) : CMap w' b n f := by
  obtain ⟨D, ⟨es, cl, h1, r⟩, h2⟩ := h
  exact ⟨D, ⟨es, cl, hb.trans h1, r⟩, h2⟩
theorem CMap.isMap {w : World} {b n : Nat} {f : Int → Hd} (h : CMap w b n f) : ∃ es cl, w.heap[b]? = some (.map es cl) := by
  obtain ⟨D, ⟨es, cl, h1, r⟩, h2⟩ := h
  exact ⟨es, cl, h1⟩
theorem CMap.congr {w : World} {b n : Nat} {f g : Int → Hd} (h : CMap w b n f) (e : ∀ k, (Lit.int .i64 k).wf = true → f k = g k) : CMap w b n g := by
  obtain ⟨D, h1, h2, h3⟩ := h
  exact ⟨D, h1, fun k hk => by rw [h2 k hk, e k hk], fun k hk => by rw [h3 k hk, e k hk]⟩
theorem CMap.made (w : World) : CMap (w.alloc (.map #[] 0)) w.heap.size 0 (fun _ => none) :=
  ⟨.map [], World.ownsMap_made w _ _ _, fun _ _ => rfl, fun _ _ => rfl⟩
theorem CMap.look {w : World} {b n : Nat} {f : Int → Hd} (h : CMap w b n f) (k : Int) (hk : (Lit.int .i64 k).wf = true) :
    (Instr.lookup 59 (.map (some b)) (.int .i64 k) false).run Try.prog w = .ok (f k).val w := by
  obtain ⟨D, h1, h2, _⟩ := h
  obtain ⟨v, ps, hr, hv⟩ := h1.lookup (z := .slice none 0 0) (zd := .nil) (zp := []) law Try.underlying59 (zeroS w) rfl (keyI k hk)
  obtain ⟨x, rfl, hx⟩ := hdr_inv hv
  have : D.atKey (.int .i64 k) .nil = x.dat := congrArg Prod.fst hx
  rw [h2 k hk] at this
  rw [hr, dat_inj this]
/-- Nothing but block b has turned, and it is a map still. -/
theorem CMap.put {w : World} {b n : Nat} {f : Int → Hd} (h : CMap w b n f) (k : Int) (hk : (Lit.int .i64 k).wf = true) (x : Nat × Nat × Nat) (hn : n < maxLen) :
    ∃ w', (Instr.mapUpdate 59 (.map (some b)) (.int .i64 k) (Hd.val (some x))).run Try.prog w = .ok () w' ∧ CMap w' b (n + 1) (fun j => if j = k then some x else f j) ∧ w.mapTurned w' b := by
  obtain ⟨D, h1, h2, h3⟩ := h
  obtain ⟨w', hr, h4, h5⟩ := h1.store law Try.underlying59 hn (keyI k hk) (hdr_val (some x))
  refine ⟨w', hr, ⟨_, h4, fun j hj => ?_, fun j hj => ?_⟩, h5⟩
  · by_cases e : j = k
    · subst e
      rw [atKey_put_same h1.isMap (isKey j hj)]; simp
    · rw [atKey_put_other (by intro h; apply e; cases h; rfl)]; simp only [if_neg e]; rw [h2 j hj]
  · by_cases e : j = k
    · subst e
      rw [has_put_same h1.isMap (isKey j hj)]; simp
    · rw [has_put_other (by intro h; apply e; cases h; rfl)]; simp only [if_neg e]; rw [h3 j hj]
theorem CMap.wipe {w : World} {b n : Nat} {f : Int → Hd} (h : CMap w b n f) (ty : TypeId) :
    ∃ w', (Builtin.clear_ #[59] ty #[.map (some b)]).run Try.prog w = .ok (.tuple #[]) w' ∧ CMap w' b 0 (fun _ => none) ∧ w.mapTurned w' b := by
  obtain ⟨D, ⟨es, cl, h1, F, hs, hD⟩, h2⟩ := h
  refine ⟨ChangeMaps.setBlock w b (.map #[] cl), ?_, ⟨.map [], ⟨#[], cl, ChangeMaps.heap_setBlock_same h1 _, ⟨by simp, ?_, by simp⟩, Nat.le_refl _, rfl⟩, fun _ _ => rfl, fun _ _ => rfl⟩, ⟨es, cl, #[], cl, h1, rfl⟩⟩
  · simp [Builtin.clear_, run_underlying Try.underlying59, MapKept.run_getObj_map h1, Result.andThen, MapKept.run_setObj_map _ h1]
    rfl
  · exact MapKept.stamped_empty cl
end Go.Proofs.Ytmkheikllbjcbaa
