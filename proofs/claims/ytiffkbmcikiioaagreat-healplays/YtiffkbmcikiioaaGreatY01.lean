/-
  Sectors in memory: rows of them; a map of slices of them, by what the slices' heads are.
  A device in memory, and what its small methods answer.
-/
import Derived.Test.YtiffkbmcikiioaaGreatY00
import Derived.Maps.RangeWalk
import Derived.Deep.MidRow
import Derived.Laws.AppendOwn
import Derived.Laws.OwnMore

/- Sectors in memory: rows of them; a map of slices of them, by what the slices' heads are. -/
namespace Go.Proofs.YtiffkbmcikiioaaGreat
set_option maxRecDepth 100000
open Go.RowKit Go.Maps

abbrev Sec := List UInt8
def secCells (s : Sec) : List Value := s.map fun b => .int .u8 (b.toNat : Int)
def flat (l : List Sec) : List Value := l.flatMap secCells

theorem secCells_len (s : Sec) : (secCells s).length = s.length := by simp [secCells]
theorem secCells_one (s : Sec) : ∀ v ∈ secCells s, v.oneCell' = true := by
  intro v hv
  obtain ⟨b, _, rfl⟩ := List.mem_map.1 hv
  rfl
theorem flat_one (l : List Sec) : ∀ v ∈ flat l, v.oneCell' = true := by
  intro v hv
  obtain ⟨s, _, h⟩ := List.mem_flatMap.1 hv
  exact secCells_one s v h
theorem flat_len (l : List Sec) (h : ∀ s ∈ l, s.length = 64) : (flat l).length = l.length * 64 := by
  induction l with
  | nil => rfl
  | cons s r ih =>
    have h1 := ih fun x hx => h x (List.mem_cons_of_mem _ hx)
    have h2 := h s List.mem_cons_self
    simp only [flat, List.flatMap_cons, List.length_append, secCells_len, h2, List.length_cons] at h1 ⊢
    omega
theorem flat_app (l m : List Sec) : flat (l ++ m) = flat l ++ flat m := by simp [flat]
theorem flat_at (l : List Sec) (h : ∀ s ∈ l, s.length = 64) (i : Nat) (hi : i < l.length) (j : Nat) (hj : j < 64) : (flat l)[i * 64 + j]? = (secCells l[i])[j]? := by
  induction l generalizing i with
  | nil => simp at hi
  | cons s r ih =>
    have h2 := h s List.mem_cons_self
    cases i with
    | zero =>
      simp only [flat, List.flatMap_cons, List.getElem_cons_zero, Nat.zero_mul, Nat.zero_add]
      rw [List.getElem?_append_left (by rw [secCells_len]; omega)]
    | succ i =>
      simp only [flat, List.flatMap_cons, List.getElem_cons_succ]
      rw [List.getElem?_append_right (by rw [secCells_len]; omega), secCells_len, h2, show (i + 1) * 64 + j - 64 = i * 64 + j by omega]
      exact ih (fun x hx => h x (List.mem_cons_of_mem _ hx)) i (by simpa using hi)
/-- Block g is a row with room for c sectors. -/
def Shape (w : World) (g c : Nat) : Prop := ∃ cur : Array Value, w.heap[g]? = some (.cells cur 103 (0, 0)) ∧ cur.size = c * 64
theorem Shape.setCell {w : World} {g c : Nat} (h : Shape w g c) (a : Addr) (v : Value) : Shape (w.setCell a v) g c := by
  obtain ⟨cur, h1, h2⟩ := h
  by_cases e : a.block = g
  · refine ⟨if a.spot.isSome then cur else cur.setIfInBounds a.off v, ?_, ?_⟩
    · simp only [World.setCell, Array.getElem?_modify, e, if_true, h1]
      simp
    · split <;> simp [h2]
  · exact ⟨cur, by rw [Below.heap_setCell _ _ _ _ (fun e' => e e'.symm)]; exact h1, h2⟩
theorem Shape.setCells {g c : Nat} (b : Nat) : ∀ (vs : List Value) (o : Nat) (w : World), Shape w g c → Shape (w.setCells b o vs) g c
  | [], _, _, h => h
  | v :: r, o, _, h => Shape.setCells b r (o + 1) _ (h.setCell _ v)
theorem Shape.frozen {w : World} {g c : Nat} (h : Shape w g c) (o : Nat) : w.frozen? ⟨g, o, none⟩ = false := by
  obtain ⟨cur, h1, _⟩ := h
  simp [World.frozen?, h1]
theorem Shape.lt {w : World} {g c : Nat} (h : Shape w g c) : g < w.heap.size := by
  obtain ⟨cur, h1, _⟩ := h
  exact (Array.getElem?_eq_some_iff.1 h1).1

/-- Block g is a row with room for c sectors, of which the first are l. -/
structure Rows (w : World) (g c : Nat) (l : List Sec) : Prop where
  shape : Shape w g c
  cells : ∀ i (h : i < l.length) j, j < 64 → w.cell? ⟨g, i * 64 + j, none⟩ = (secCells l[i])[j]?
  le : l.length ≤ c
  cap : c ≤ maxLen
  len : ∀ s ∈ l, s.length = 64

theorem Rows.at_ {w : World} {g c : Nat} {l : List Sec} (h : Rows w g c l) (i : Nat) (hi : i < l.length) : l[i].length = 64 := h.len _ (List.getElem_mem hi)
theorem Rows.range {w : World} {g c : Nat} {l : List Sec} (h : Rows w g c l) (i : Nat) (hi : i < l.length) : w.rangeAt g (i * 64) (secCells l[i]) := fun j v hv => by
  have hj : j < 64 := by
    have := (List.getElem?_eq_some_iff.1 hv).1
    rw [secCells_len, h.at_ i hi] at this
    exact this
  rw [h.cells i hi j hj, hv]
theorem Rows.there {w : World} {g c : Nat} {l : List Sec} (h : Rows w g c l) (i : Nat) (hi : i < l.length) : w.there g (i * 64) 64 := fun j hj => by
  refine ⟨?_, h.shape.frozen _⟩
  rw [h.cells i hi j hj, List.getElem?_eq_getElem (by rw [secCells_len, h.at_ i hi]; exact hj)]
  rfl
theorem Rows.byte {w : World} {g c : Nat} {l : List Sec} (h : Rows w g c l) (i : Nat) (hi : i < l.length) (j : Nat) (hj : j < 64) : w.cell? ⟨g, i * 64 + j, none⟩ = some (.int .u8 ((l[i].getD j 0).toNat : Int)) := by
  have h1 := h.at_ i hi
  rw [h.cells i hi j hj, secCells, List.getElem?_map, List.getElem?_eq_getElem (by omega), List.getD_eq_getElem?_getD, List.getElem?_eq_getElem (by omega)]
  rfl
theorem Rows.setCells {w : World} {g c : Nat} {l : List Sec} (h : Rows w g c l) (i : Nat) (hi : i < l.length) (x : Sec) (hx : x.length = 64) : Rows (w.setCells g (i * 64) (secCells x)) g c (l.set i x) := by
  refine ⟨h.shape.setCells _ _ _ _, fun k hk j hj => ?_, by simpa using h.le, h.cap, fun s hs => ?_⟩
  · rw [List.length_set] at hk
    by_cases e : i = k
    · subst e
      rw [World.cell?_setCells_in g (secCells x) (i * 64) w (fun j hj => (h.there i hi j (by rw [secCells_len] at hj; omega)).1) j (by rw [secCells_len]; omega)]
      rw [List.getElem_set_self, List.getElem?_eq_getElem (by rw [secCells_len]; omega)]
    · rw [World.cell?_setCells_out g (secCells x) (i * 64) w _ (fun _ _ => by simp only [secCells_len]; omega), List.getElem_set_ne e]
      exact h.cells k hk j hj
  · rcases List.mem_or_eq_of_mem_set hs with h1 | rfl
    · exact h.len s h1
    · exact hx
theorem Rows.setCell {w : World} {g c : Nat} {l : List Sec} (h : Rows w g c l) (i : Nat) (hi : i < l.length) (j : Nat) (hj : j < 64) (b : UInt8) : Rows (w.setCell ⟨g, i * 64 + j, none⟩ (.int .u8 (b.toNat : Int))) g c (l.set i (l[i].set j b)) := by
  have hl := h.at_ i hi
  refine ⟨h.shape.setCell _ _, fun k hk m hm => ?_, by simpa using h.le, h.cap, fun s hs => ?_⟩
  · rw [List.length_set] at hk
    by_cases e : i = k
    · subst e
      rw [List.getElem_set_self]
      by_cases e2 : j = m
      · subst e2
        rw [World.cell?_setCell_same _ _ _ (h.byte i hi j hj), secCells, List.getElem?_map, List.getElem?_set_self (by omega)]
        rfl
      · rw [World.cell?_setCell_other _ _ _ _ (by intro h; injection h with _ h _; omega), h.cells i hk m hm, secCells, secCells, List.getElem?_map, List.getElem?_map, List.getElem?_set_ne e2]
    · rw [World.cell?_setCell_other _ _ _ _ (by intro h; injection h with _ h _; omega), List.getElem_set_ne e]
      exact h.cells k hk m hm
  · rcases List.mem_or_eq_of_mem_set hs with h1 | rfl
    · exact h.len s h1
    · rw [List.length_set]; exact hl
theorem Rows.same {w w' : World} {g c : Nat} {l : List Sec} (h : Rows w g c l) (hb : w'.heap[g]? = w.heap[g]?) : Rows w' g c l := by
  obtain ⟨⟨cur, h1, h2⟩, h3, h4, h5, h6⟩ := h
  exact ⟨⟨cur, hb.trans h1, h2⟩, fun i hi j hj => by rw [World.cell?_of_block (w := w) hb]; exact h3 i hi j hj, h4, h5, h6⟩
theorem Rows.lt {w : World} {g c : Nat} {l : List Sec} (h : Rows w g c l) : g < w.heap.size := h.shape.lt
theorem Rows.owns {w : World} {g c : Nat} {l : List Sec} (h : Rows w g c l) (B : Nat) (hB : B ≤ g) : w.ownsRow B 103 64 (.slice (some ⟨g, 0, none⟩) l.length c) l.length (flat l) := by
  obtain ⟨⟨cur, h1, h2⟩, h3, h4, h5, h6⟩ := h
  refine ⟨flat_len l h6, .inr ⟨g, c, cur, rfl, hB, h1, h4, h5, h2, ?_⟩⟩
  apply List.ext_getElem?
  intro k
  by_cases hk : k < l.length * 64
  · have e : k = k / 64 * 64 + k % 64 := by omega
    have hi : k / 64 < l.length := by omega
    rw [List.getElem?_take_of_lt hk, e, flat_at l h6 _ hi _ (by omega), ← h3 _ hi _ (by omega)]
    simp [World.cell?, h1]
  · rw [List.getElem?_eq_none (by rw [List.length_take]; omega), List.getElem?_eq_none (by rw [flat_len l h6]; omega)]
theorem rows_of_owns {w : World} {B g c n : Nat} {l : List Sec} (hn : l.length = n) (h : w.ownsRow B 103 64 (.slice (some ⟨g, 0, none⟩) n c) n (flat l)) (h6 : ∀ s ∈ l, s.length = 64) : Rows w g c l := by
  subst hn
  rcases h.2 with ⟨h0, _⟩ | ⟨g', c', cur, hv, hB, h1, h4, h5, h2, h3⟩
  · cases h0
  · cases hv
    refine ⟨⟨cur, h1, h2⟩, fun i hi j hj => ?_, h4, h5, h6⟩
    rw [← flat_at l h6 i hi j hj, ← h3, List.getElem?_take_of_lt (by omega)]
    simp [World.cell?, h1]

/-- A slice of sectors, by its head. -/
abbrev Hd := Option (Nat × Nat × Nat)
def Hd.val : Hd → Value
  | none => .slice none 0 0
  | some (g, n, c) => .slice (some ⟨g, 0, none⟩) n c
def Hd.dat : Hd → DataW Unit
  | none => .nil
  | some (g, n, c) => .agg [.lit (.int .u64 g), .lit (.int .u64 n), .lit (.int .u64 c)]
def hdr : Value → Option (DataW Unit × List MemPlace)
  | .slice (some ⟨g, 0, none⟩) n c => some (Hd.dat (some (g, n, c)), [])
  | .slice none 0 0 => some (Hd.dat none, [])
  | _ => none
theorem hdr_val (h : Hd) : hdr h.val = some (h.dat, []) := by
  cases h <;> rfl
theorem hdr_inv {v : Value} {z : DataW Unit × List MemPlace} (h : hdr v = some z) : ∃ x : Hd, v = x.val ∧ z = (x.dat, []) := by
  unfold hdr at h
  split at h
  · rename_i g n c
    cases h; exact ⟨some (g, n, c), rfl, rfl⟩
  · cases h; exact ⟨none, rfl, rfl⟩
  · cases h
theorem dat_inj {a b : Hd} (h : a.dat = b.dat) : a = b := by
  rcases a with _ | ⟨g, n, c⟩ <;> rcases b with _ | ⟨g', n', c'⟩ <;> simp [Hd.dat] at h ⊢
  · omega

theorem law : Keyed Tryz.prog 3 := int_keyed Tryz.underlying3
theorem zeroS (w : World) : (zeroValue 98).run Tryz.prog w = .ok (.slice none 0 0) w := by kernel_rfl
theorem keyI (k : Int) (h : (Lit.int .i64 k).wf = true) : keyOf Tryz.prog 3 (.int .i64 k) = some (.int .i64 k) := keyOf_int_mk Tryz.underlying3 h
theorem isKey (k : Int) (h : (Lit.int .i64 k).wf = true) : WideAt.IsKeyLit (.int .i64 k) := law.key (keyI k h)
theorem wfN (k : Nat) (h : k < 9223372036854775808) : (Lit.int .i64 (k : Int)).wf = true := WalkArith.wf_i64 (by omega)

/-- Block b is a map of at most n slices of sectors: at k the one with the head f k. -/
def CMap (w : World) (b n : Nat) (f : Int → Hd) : Prop :=
  ∃ D : DataW Unit, w.ownsMap Tryz.prog 3 hdr b n D ∧ (∀ k, (Lit.int .i64 k).wf = true → D.atKey (.int .i64 k) .nil = (f k).dat) ∧ ∀ k, (Lit.int .i64 k).wf = true → has D (.int .i64 k) = (f k).isSome

theorem CMap.lt {w : World} {b n : Nat} {f : Int → Hd} (h : CMap w b n f) : b < w.heap.size := by
  obtain ⟨D, h1, _⟩ := h
  exact h1.lt
theorem CMap.same {w w' : World} {b n : Nat} {f : Int → Hd} (h : CMap w b n f) (hb : w'.heap[b]? = w.heap[b]?) : CMap w' b n f := by
  obtain ⟨D, ⟨es, cl, h1, r⟩, h2⟩ := h
  exact ⟨D, ⟨es, cl, hb.trans h1, r⟩, h2⟩
theorem CMap.isMap {w : World} {b n : Nat} {f : Int → Hd} (h : CMap w b n f) : ∃ es cl, w.heap[b]? = some (.map es cl) := by
  obtain ⟨D, ⟨es, cl, h1, r⟩, h2⟩ := h
  exact ⟨es, cl, h1⟩
theorem CMap.congr {w : World} {b n : Nat} {f g : Int → Hd} (h : CMap w b n f) (e : ∀ k, (Lit.int .i64 k).wf = true → f k = g k) : CMap w b n g := by
  obtain ⟨D, h1, h2, h3⟩ := h
  exact ⟨D, h1, fun k hk => by rw [h2 k hk, e k hk], fun k hk => by rw [h3 k hk, e k hk]⟩
theorem CMap.made (w : World) : CMap (w.alloc (.map #[] 0)) w.heap.size 0 (fun _ => none) :=
  ⟨.map [], World.ownsMap_made w _ _ _, fun _ _ => rfl, fun _ _ => rfl⟩
theorem CMap.look {w : World} {b n : Nat} {f : Int → Hd} (h : CMap w b n f) (k : Int) (hk : (Lit.int .i64 k).wf = true) :
    (Instr.lookup 99 (.map (some b)) (.int .i64 k) false).run Tryz.prog w = .ok (f k).val w := by
  obtain ⟨D, h1, h2, _⟩ := h
  obtain ⟨v, ps, hr, hv⟩ := h1.lookup (z := .slice none 0 0) (zd := .nil) (zp := []) law Tryz.underlying99 (zeroS w) rfl (keyI k hk)
  obtain ⟨x, rfl, hx⟩ := hdr_inv hv
  have : D.atKey (.int .i64 k) .nil = x.dat := congrArg Prod.fst hx
  rw [h2 k hk] at this
  rw [hr, dat_inj this]
/-- Nothing but block b has turned, and it is a map still. -/
theorem CMap.put {w : World} {b n : Nat} {f : Int → Hd} (h : CMap w b n f) (k : Int) (hk : (Lit.int .i64 k).wf = true) (x : Nat × Nat × Nat) (hn : n < maxLen) :
    ∃ w', (Instr.mapUpdate 99 (.map (some b)) (.int .i64 k) (Hd.val (some x))).run Tryz.prog w = .ok () w' ∧ CMap w' b (n + 1) (fun j => if j = k then some x else f j) ∧ w.mapTurned w' b := by
  obtain ⟨D, h1, h2, h3⟩ := h
  obtain ⟨w', hr, h4, h5⟩ := h1.store law Tryz.underlying99 hn (keyI k hk) (hdr_val (some x))
  refine ⟨w', hr, ⟨_, h4, fun j hj => ?_, fun j hj => ?_⟩, h5⟩
  · by_cases e : j = k
    · subst e
      rw [atKey_put_same h1.isMap (isKey j hj)]; simp
    · rw [atKey_put_other (by intro h; apply e; cases h; rfl)]; simp only [if_neg e]; rw [h2 j hj]
  · by_cases e : j = k
    · subst e
      rw [has_put_same h1.isMap (isKey j hj)]; simp
    · rw [has_put_other (by intro h; apply e; cases h; rfl)]; simp only [if_neg e]; rw [h3 j hj]
theorem CMap.wipe {w : World} {b n : Nat} {f : Int → Hd} (h : CMap w b n f) (ty : TypeId) :
    ∃ w', (Builtin.clear_ #[99] ty #[.map (some b)]).run Tryz.prog w = .ok (.tuple #[]) w' ∧ CMap w' b 0 (fun _ => none) ∧ w.mapTurned w' b := by
  obtain ⟨D, ⟨es, cl, h1, F, hs, hD⟩, h2⟩ := h
  refine ⟨ChangeMaps.setBlock w b (.map #[] cl), ?_, ⟨.map [], ⟨#[], cl, ChangeMaps.heap_setBlock_same h1 _, ⟨by simp, ?_, by simp⟩, Nat.le_refl _, rfl⟩, fun _ _ => rfl, fun _ _ => rfl⟩, ⟨es, cl, #[], cl, h1, rfl⟩⟩
  · simp [Builtin.clear_, run_underlying Tryz.underlying99, MapKept.run_getObj_map h1, Result.andThen, MapKept.run_setObj_map _ h1]
    rfl
  · exact MapKept.stamped_empty cl
end Go.Proofs.YtiffkbmcikiioaaGreat

/- A device in memory, and what its small methods answer. -/
namespace Go.Proofs.YtiffkbmcikiioaaGreat
set_option maxRecDepth 100000
open Go.RowKit Go.Maps

/-- A device, as it is thought: what stands on the medium, what was written since, and the rest. cnt: a bound for how much was written since. -/
structure Dv where
  med : List Sec
  since : Nat → List Sec
  lost : Bool
  fused : Bool
  left : Nat
  cnt : Nat
structure DvOk (S : Dv) : Prop where
  n1 : 1 ≤ S.med.length
  n2 : S.med.length ≤ 4096
  out : ∀ i, S.med.length ≤ i → S.since i = []
  left : S.left < 9223372036854775808
  cnts : ∀ i, (S.since i).length ≤ S.cnt
/-- Nothing has turned but blocks of which fp holds, and new ones. -/
structure Turn (fp : Nat → Prop) (w w' : World) : Prop where
  os : w'.os = w.os
  tape : w'.tape = w.tape
  output : w'.output = w.output
  size : w.heap.size ≤ w'.heap.size
  block : ∀ k, k < w.heap.size → ¬ fp k → w'.heap[k]? = w.heap[k]?
theorem Turn.refl (fp : Nat → Prop) (w : World) : Turn fp w w := ⟨rfl, rfl, rfl, Nat.le_refl _, fun _ _ _ => rfl⟩
theorem Turn.trans {fp fp' : Nat → Prop} {a b c : World} (h : Turn fp a b) (k : Turn fp' b c) (hf : ∀ i, fp' i → fp i ∨ a.heap.size ≤ i) : Turn fp a c :=
  ⟨k.os.trans h.os, k.tape.trans h.tape, k.output.trans h.output, Nat.le_trans h.size k.size, fun i hi hn => (k.block i (Nat.lt_of_lt_of_le hi h.size) (fun e => by rcases hf i e with e | e; exact hn e; omega)).trans (h.block i hi hn)⟩
theorem Turn.below {fp : Nat → Prop} {B : Nat} {w w' : World} (h : Turn fp w w') (hB : ∀ k, fp k → B ≤ k) (hs : B ≤ w.heap.size) : Below B w w' :=
  ⟨h.os, h.tape, h.output, h.size, fun k hk => h.block k (by omega) fun e => by have := hB k e; omega⟩
theorem Turn.of_below {fp : Nat → Prop} {w w' : World} (h : Below w.heap.size w w') : Turn fp w w' := ⟨h.os, h.tape, h.output, h.size, fun k hk _ => h.block k hk⟩
theorem Turn.setCell {fp : Nat → Prop} {a w : World} (h : Turn fp a w) {p : Addr} (hp : fp p.block ∨ a.heap.size ≤ p.block) (u : Value) : Turn fp a (w.setCell p u) :=
  ⟨h.os, h.tape, h.output, by simpa [World.setCell] using h.size, fun k hk hn => by
    rw [Below.heap_setCell _ _ _ _ (fun e => by rcases hp with hp | hp; exact hn (e ▸ hp); omega)]
    exact h.block k hk hn⟩
theorem heap_setCells (b : Nat) : ∀ (vs : List Value) (o : Nat) (w : World), (w.setCells b o vs).heap.size = w.heap.size ∧ ∀ k, k ≠ b → (w.setCells b o vs).heap[k]? = w.heap[k]?
  | [], _, _ => ⟨rfl, fun _ _ => rfl⟩
  | v :: r, o, w => by
    obtain ⟨h1, h2⟩ := heap_setCells b r (o + 1) (w.setCell ⟨b, o, none⟩ v)
    exact ⟨h1.trans (by simp [World.setCell]), fun k hk => (h2 k hk).trans (Below.heap_setCell _ _ _ _ hk)⟩
theorem env_setCells (b : Nat) : ∀ (vs : List Value) (o : Nat) (w : World), (w.setCells b o vs).os = w.os ∧ (w.setCells b o vs).tape = w.tape ∧ (w.setCells b o vs).output = w.output
  | [], _, _ => ⟨rfl, rfl, rfl⟩
  | v :: r, o, w => env_setCells b r (o + 1) (w.setCell ⟨b, o, none⟩ v)
theorem Turn.setCells {fp : Nat → Prop} {a w : World} (h : Turn fp a w) {b : Nat} (hp : fp b) (o : Nat) (vs : List Value) : Turn fp a (w.setCells b o vs) := by
  obtain ⟨h1, h2⟩ := heap_setCells b vs o w
  obtain ⟨e1, e2, e3⟩ := env_setCells b vs o w
  exact ⟨e1.trans h.os, e2.trans h.tape, e3.trans h.output, by rw [h1]; exact h.size, fun k hk hn => (h2 k (fun e => hn (e ▸ hp))).trans (h.block k hk hn)⟩
theorem Turn.mapTurned {fp : Nat → Prop} {a w w' : World} (h : Turn fp a w) {b : Nat} (hp : fp b) (ht : w.mapTurned w' b) : Turn fp a w' := by
  have hg := ht.grown
  exact ⟨hg.os.trans h.os, hg.tape.trans h.tape, hg.output.trans h.output, Nat.le_trans h.size hg.size, fun k hk hn => (hg.block k (Nat.lt_of_lt_of_le hk h.size) (fun e => by cases e; exact hn hp)).trans (h.block k hk hn)⟩
theorem mapTurned_size {w w' : World} {b : Nat} (ht : w.mapTurned w' b) : w'.heap.size = w.heap.size := by
  obtain ⟨_, _, _, _, _, rfl⟩ := ht
  simp [ChangeMaps.setBlock]

/-- The heads of the slices of versions. -/
def hdOf (S : Dv) (hd : Nat → Nat × Nat) (k : Int) : Hd :=
  if k < 0 ∨ S.since k.toNat = [] then none else some ((hd k.toNat).1, (S.since k.toNat).length, (hd k.toNat).2)
/-- The cells of the device's own block. -/
def dvCells (S : Dv) (mb cb : Nat) : Array Value := #[.slice (some ⟨mb, 0, none⟩) S.med.length S.med.length, .map (some cb), .bool S.lost, .bool S.fused, .int .i64 (S.left : Int)]
structure DevIn (w : World) (b mb cb m : Nat) (hd : Nat → Nat × Nat) (S : Dv) (fp : Nat → Prop) : Prop where
  ok : DvOk S
  blk : w.heap[b]? = some (.cells (dvCells S mb cb) 101 (0, 0))
  med : Rows w mb S.med.length S.med
  map : CMap w cb m (hdOf S hd)
  mle : m ≤ S.cnt
  vers : ∀ i, S.since i ≠ [] → Rows w (hd i).1 (hd i).2 (S.since i)
  inj : ∀ i j, S.since i ≠ [] → S.since j ≠ [] → (hd i).1 = (hd j).1 → i = j
  apart : ∀ i, S.since i ≠ [] → (hd i).1 ≠ mb
  fb : fp b
  fm : fp mb
  fc : fp cb
  fv : ∀ i, S.since i ≠ [] → fp (hd i).1
  lt : ∀ k, fp k → k < w.heap.size
/-- Block b is a device S; fp holds of its blocks. -/
def DevAt (w : World) (b : Nat) (S : Dv) (fp : Nat → Prop) : Prop := ∃ mb cb m hd, DevIn w b mb cb m hd S fp

section
variable {w : World} {b mb cb m : Nat} {hd : Nat → Nat × Nat} {S : Dv} {fp : Nat → Prop}
theorem DevIn.bm (h : DevIn w b mb cb m hd S fp) : b ≠ mb := by
  intro e
  obtain ⟨cur, h1, _⟩ := h.med.shape
  have := h.blk
  rw [e, h1] at this
  cases this
theorem DevIn.bv (h : DevIn w b mb cb m hd S fp) (i : Nat) (hi : S.since i ≠ []) : b ≠ (hd i).1 := by
  intro e
  obtain ⟨cur, h1, _⟩ := (h.vers i hi).shape
  have := h.blk
  rw [e, h1] at this
  cases this
theorem DevIn.cbb (h : DevIn w b mb cb m hd S fp) : cb ≠ b := by
  intro e
  obtain ⟨es, cl, h1⟩ := h.map.isMap
  rw [e, h.blk] at h1
  cases h1
theorem DevIn.cmb (h : DevIn w b mb cb m hd S fp) : cb ≠ mb := by
  intro e
  obtain ⟨es, cl, h1⟩ := h.map.isMap
  obtain ⟨cur, h2, _⟩ := h.med.shape
  rw [e, h2] at h1
  cases h1
theorem DevIn.cv (h : DevIn w b mb cb m hd S fp) (i : Nat) (hi : S.since i ≠ []) : cb ≠ (hd i).1 := by
  intro e
  obtain ⟨es, cl, h1⟩ := h.map.isMap
  obtain ⟨cur, h2, _⟩ := (h.vers i hi).shape
  rw [e, h2] at h1
  cases h1
theorem DevIn.c0 (h : DevIn w b mb cb m hd S fp) : w.cell? ⟨b, 0, none⟩ = some (.slice (some ⟨mb, 0, none⟩) S.med.length S.med.length) := by simp [World.cell?, h.blk, dvCells]
theorem DevIn.c1 (h : DevIn w b mb cb m hd S fp) : w.cell? ⟨b, 1, none⟩ = some (.map (some cb)) := by simp [World.cell?, h.blk, dvCells]
theorem DevIn.c2 (h : DevIn w b mb cb m hd S fp) : w.cell? ⟨b, 2, none⟩ = some (.bool S.lost) := by simp [World.cell?, h.blk, dvCells]
theorem DevIn.c3 (h : DevIn w b mb cb m hd S fp) : w.cell? ⟨b, 3, none⟩ = some (.bool S.fused) := by simp [World.cell?, h.blk, dvCells]
theorem DevIn.c4 (h : DevIn w b mb cb m hd S fp) : w.cell? ⟨b, 4, none⟩ = some (.int .i64 (S.left : Int)) := by simp [World.cell?, h.blk, dvCells]
theorem DevIn.fr (h : DevIn w b mb cb m hd S fp) (o : Nat) : w.frozen? ⟨b, o, none⟩ = false := by simp [World.frozen?, h.blk]
theorem DevIn.blt (h : DevIn w b mb cb m hd S fp) : b < w.heap.size := h.lt b h.fb

/-- Only fields of the device's own block have turned. -/
theorem DevIn.field (h : DevIn w b mb cb m hd S fp) (S' : Dv) (e1 : S'.med = S.med) (e2 : S'.since = S.since) (e3 : S'.cnt = S.cnt) (hl : S'.left < 9223372036854775808) (w' : World) (hz : w'.heap.size = w.heap.size)
    (hb : w'.heap[b]? = some (.cells (dvCells S' mb cb) 101 (0, 0))) (ho : ∀ k, k ≠ b → w'.heap[k]? = w.heap[k]?) : DevIn w' b mb cb m hd S' fp := by
  obtain ⟨med', since', lost', fused', left', cnt'⟩ := S'
  simp only at e1 e2 e3 hl
  subst e1 e2 e3
  exact ⟨⟨h.ok.n1, h.ok.n2, h.ok.out, hl, h.ok.cnts⟩, hb, h.med.same (ho _ h.bm.symm), h.map.same (ho _ h.cbb), h.mle, fun i hi => (h.vers i hi).same (ho _ (h.bv i hi).symm), h.inj, h.apart, h.fb, h.fm, h.fc, h.fv, fun k hk => by rw [hz]; exact h.lt k hk⟩
theorem DevIn.set2 (h : DevIn w b mb cb m hd S fp) (x : Bool) : DevIn (w.setCell ⟨b, 2, none⟩ (.bool x)) b mb cb m hd { S with lost := x } fp :=
  h.field { S with lost := x } rfl rfl rfl h.ok.left _ (by simp [World.setCell]) (by simp [World.setCell, Array.getElem?_modify, h.blk, dvCells]) fun k hk => Below.heap_setCell _ _ _ _ hk
theorem DevIn.set3 (h : DevIn w b mb cb m hd S fp) (x : Bool) : DevIn (w.setCell ⟨b, 3, none⟩ (.bool x)) b mb cb m hd { S with fused := x } fp :=
  h.field { S with fused := x } rfl rfl rfl h.ok.left _ (by simp [World.setCell]) (by simp [World.setCell, Array.getElem?_modify, h.blk, dvCells]) fun k hk => Below.heap_setCell _ _ _ _ hk
theorem DevIn.set4 (h : DevIn w b mb cb m hd S fp) (x : Nat) (hx : x < 9223372036854775808) : DevIn (w.setCell ⟨b, 4, none⟩ (.int .i64 (x : Int))) b mb cb m hd { S with left := x } fp :=
  h.field { S with left := x } rfl rfl rfl hx _ (by simp [World.setCell]) (by simp [World.setCell, Array.getElem?_modify, h.blk, dvCells]) fun k hk => Below.heap_setCell _ _ _ _ hk
/-- None of the device's blocks has turned. -/
theorem DevIn.same (h : DevIn w b mb cb m hd S fp) {w' : World} (hz : w.heap.size ≤ w'.heap.size) (ho : ∀ k, fp k → w'.heap[k]? = w.heap[k]?) : DevIn w' b mb cb m hd S fp :=
  ⟨h.ok, (ho b h.fb).trans h.blk, h.med.same (ho _ h.fm), h.map.same (ho _ h.fc), h.mle, fun i hi => (h.vers i hi).same (ho _ (h.fv i hi)), h.inj, h.apart, h.fb, h.fm, h.fc, h.fv, fun k hk => Nat.lt_of_lt_of_le (h.lt k hk) hz⟩
theorem DevIn.below (h : DevIn w b mb cb m hd S fp) {w' : World} (hb : Below w.heap.size w w') : DevIn w' b mb cb m hd S fp := h.same hb.size fun k hk => hb.block k (h.lt k hk)
theorem DevAt.same (h : DevAt w b S fp) {w' : World} (hz : w.heap.size ≤ w'.heap.size) (ho : ∀ k, fp k → w'.heap[k]? = w.heap[k]?) : DevAt w' b S fp := by
  obtain ⟨mb, cb, m, hd, h⟩ := h
  exact ⟨mb, cb, m, hd, h.same hz ho⟩
theorem DevAt.below (h : DevAt w b S fp) {w' : World} (hb : Below w.heap.size w w') : DevAt w' b S fp := by
  obtain ⟨mb, cb, m, hd, h⟩ := h
  exact ⟨mb, cb, m, hd, h.below hb⟩
theorem DevAt.ok (h : DevAt w b S fp) : DvOk S := by
  obtain ⟨mb, cb, m, hd, h⟩ := h
  exact h.ok
theorem DevAt.drew (h : DevAt w b S fp) : DevAt w.drew b S fp := h.below (Below.refl _ _).drew
theorem DevIn.drew (h : DevIn w b mb cb m hd S fp) : DevIn w.drew b mb cb m hd S fp := h.below (Below.refl _ _).drew
end

/-- What becomes of a world in which something was done to a device. -/
def Did (fp : Nat → Prop) (b : Nat) (S' : Dv) (w w' : World) : Prop := ∃ fp', DevAt w' b S' fp' ∧ (∀ k, fp' k → fp k ∨ w.heap.size ≤ k) ∧ Turn fp w w'

theorem lost_any (b : Nat) (S : Dv) (fp : Nat → Prop) (w : World) (h : DevAt w b S fp) :
    Calls Tryz.prog 51 #[.pointer (some ⟨b, 0, none⟩)] w fun e w' => e = .returned (.bool S.lost) ∧ w = w' := by
  obtain ⟨mb, cb, m, hd, h⟩ := h
  have c2 := h.c2
  clear h
  go_enter Tryz.func51, Tryz.ntmps51
  go_wp2
  go_ret
  exact ⟨rfl, rfl⟩
theorem lost_nil (w : World) :
    Calls Tryz.prog 51 #[.pointer none] w fun e w' => e = .returned (.bool true) ∧ w = w' := by
  go_enter Tryz.func51, Tryz.ntmps51
  go_wp2
  go_ret
  exact ⟨rfl, rfl⟩
theorem secs_any (b : Nat) (S : Dv) (fp : Nat → Prop) (w : World) (h : DevAt w b S fp) :
    Calls Tryz.prog 65 #[.pointer (some ⟨b, 0, none⟩)] w fun e w' => e = .returned (.int .i64 S.med.length) ∧ w = w' := by
  obtain ⟨mb, cb, m, hd, h⟩ := h
  have c0 := h.c0
  clear h
  go_enter Tryz.func65, Tryz.ntmps65
  go_wp2
  go_ret
  exact ⟨rfl, rfl⟩
theorem secs_nil (w : World) :
    Calls Tryz.prog 65 #[.pointer none] w fun e w' => e = .returned (.int .i64 0) ∧ w = w' := by
  go_enter Tryz.func65, Tryz.ntmps65
  go_wp2
  go_ret
  exact ⟨rfl, rfl⟩
/-- What keeps a sector from being reached. -/
def reachE (S : Dv) (k : Int) : Int := if S.lost then 6 else if k < 0 ∨ (S.med.length : Int) ≤ k then 5 else 0
theorem reach_any (b : Nat) (S : Dv) (fp : Nat → Prop) (k : Int) (w : World) (h : DevAt w b S fp) :
    Calls Tryz.prog 32 #[.pointer (some ⟨b, 0, none⟩), .int .i64 k] w fun e w' => e = .returned (.int .i64 (reachE S k)) ∧ w = w' := by
  have hL := lost_any b S fp w h
  obtain ⟨mb, cb, m, hd, h⟩ := h
  have c0 := h.c0
  have hn := h.ok.n2
  clear h
  unfold reachE
  generalize S.lost = L at *
  generalize S.med.length = n at *
  by_cases hk : k < 0
  · go_enter Tryz.func32, Tryz.ntmps32
    go_wp2_with fail
    refine hL.mono ?_
    rintro e w1 ⟨rfl, rfl⟩
    cases L
    all_goals
      go_wp2
      go_ret
      exact ⟨by simp [*], rfl⟩
  · have hk' : decide (k < 0) = false := by simpa using hk
    by_cases hm : (n : Int) ≤ k
    · go_enter Tryz.func32, Tryz.ntmps32
      go_wp2_with fail
      refine hL.mono ?_
      rintro e w1 ⟨rfl, rfl⟩
      cases L
      all_goals
        go_wp2
        go_ret
        exact ⟨by simp [*], rfl⟩
    · have hm' : decide ((n : Int) ≤ k) = false := by simpa using hm
      go_enter Tryz.func32, Tryz.ntmps32
      go_wp2_with fail
      refine hL.mono ?_
      rintro e w1 ⟨rfl, rfl⟩
      cases L
      all_goals
        go_wp2
        go_ret
        exact ⟨by simp [*], rfl⟩
theorem reach_nil (k : Int) (w : World) :
    Calls Tryz.prog 32 #[.pointer none, .int .i64 k] w fun e w' => e = .returned (.int .i64 6) ∧ w = w' := by
  go_enter Tryz.func32, Tryz.ntmps32
  go_wp2_with fail
  refine (lost_nil _).mono ?_
  rintro e w1 ⟨rfl, rfl⟩
  go_wp2
  go_ret
  exact ⟨rfl, rfl⟩
end Go.Proofs.YtiffkbmcikiioaaGreat
