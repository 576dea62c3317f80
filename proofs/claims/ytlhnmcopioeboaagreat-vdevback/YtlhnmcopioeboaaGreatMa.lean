/-
  Small general lemmas: a quiet call met behind draws; a slice of integers that came in ('IsRow'); worlds that grow one behind the other.
  Sectors in memory: rows of them; a map of slices of them, by what the slices' heads are.
  A device in memory, and what its small methods answer.
  A measure: its groups as a list of pairs (kind, devices), and its sectors; how it lies in memory; a measure that came in, opened.
  geom.Right: what it answers.
  The numbers of a measure: devices ahead of a group, what a group gives out, what a block takes.
  geom.Devs, First, Of, Sectors, Takes: what they answer.
  geom.Takes, and polderlaw05.awake: what they answer.
  A measure in a box: what stays while worlds grow.
  Columns: a list of them, in memory; a measure and a place in boxes.
  A block's columns of a Mirror: cols.ofMirror.
  The closure that numbers sectors: cols.ofParity's.
  A block's columns of a Parity: cols.ofParity.
  A region that draws its order, whose operations read and whose callees may make memory: one walk in the text's order serves, where all worlds that come up are of one family.
-/
import Derived.Test.YtlhnmcopioeboaaGreatChecked
import Derived.WalkKit
import Derived.ProofKit
import Derived.WalkSpells
import Derived.OwnWalk
import Derived.WalkLawsBesides
import Derived.OpenShut
import Derived.Deep.QuietTactic
import Derived.BigQuiet
import Derived.Lib.Hide
import Derived.Deep.Slices
import Derived.ChangeSame
import Derived.Maps.RangeWalk
import Derived.Deep.MidRow
import Derived.Laws.AppendOwn
import Derived.Laws.OwnMore
import Derived.Deep.RegionHeld3
import Derived.IntWalk
import Derived.Deep.DeepCutAuto
import Derived.Deep.RegionWith

/- Small general lemmas: a quiet call met behind draws; a slice of integers that came in ('IsRow'); worlds that grow one behind the other. -/
namespace Go.Proofs.YtlhnmcopioeboaaGreat
set_option maxRecDepth 100000
open Go.RowKit

theorem quiet_same {P : Program} {f : FuncId} {args : Array Value} {w : World} {n : Nat} {v : Value}
    (h : Calls P f args (w.drewN n) fun e w' => e = .returned v ∧ w.drewN n = w') : Calls P f args (w.drewN n) fun e w'' => e = .returned v ∧ ∃ m, w'' = w.drewN m :=
  h.mono fun _ _ ⟨he, hm⟩ => ⟨he, n, hm.symm⟩

/-- A slice of integers that came in: nil, or a row of cap cells, the numbers zs. -/
def IsRow (k : IntKind) (w : World) (a : Option Addr) (len cap : Nat) (zs : List Int) : Prop :=
  (a = none ∧ len = 0 ∧ cap = 0 ∧ zs = []) ∨
  ∃ x, a = some x ∧ len ≤ cap ∧ cap ≤ maxLen ∧ zs.length = cap ∧ (∀ i, i < zs.length → w.cell? (x.add i) = some (.int k (zs.getD i 0))) ∧ ∀ n ∈ zs, (Lit.int k n).wf = true

theorem IsRow.len_le {k : IntKind} {w : World} {a : Option Addr} {len cap : Nat} {zs : List Int} (h : IsRow k w a len cap zs) : len ≤ maxLen := by
  rcases h with ⟨_, rfl, _, _⟩ | ⟨x, _, h1, h2, _⟩
  · exact Nat.zero_le _
  · exact Nat.le_trans h1 h2
/-- An element: its cell lies in an old block. -/
theorem IsRow.at_ {k : IntKind} {w : World} {a : Option Addr} {len cap : Nat} {zs : List Int} (h : IsRow k w a len cap zs) (i : Nat) (hi : i < len) :
    ∃ b off, a = some ⟨b, off, none⟩ ∧ b < w.heap.size ∧ w.cell? ⟨b, off + i, none⟩ = some (.int k (zs.getD i 0)) ∧ (Lit.int k (zs.getD i 0)).wf = true := by
  rcases h with ⟨_, rfl, _, _⟩ | ⟨x, rfl, h1, h2, h3, h4, h5⟩
  · omega
  · obtain ⟨b, off, rfl, hc⟩ := ints_at h4 (show 0 < zs.length by omega)
    have hci := hc i (by omega)
    refine ⟨b, off, rfl, ?_, hci, h5 _ ?_⟩
    · exact World.block_lt_of_cell? w ⟨b, off + i, none⟩ hci
    · rw [List.getD_eq_getElem?_getD, List.getElem?_eq_getElem (by omega)]; exact List.getElem_mem _

section
variable {H : Type} {enc : TypeId × Value → H} {P : Program} {W : World}
/-- A slice that came in, whatever its elements: for each index the element's cells, in an old block, and that they can be read by the element's type. -/
theorem slice_elems {t e : TypeId} {fuel : Nat} {a : Option Addr} {len cap : Nat} {x : DataW H × List MemPlace} (ht : P.underlying t = some (.slice e)) (hC : 0 < P.cellsOf e)
    (h : DataW.trod enc P W 0 (fun _ => true) true fuel t [.slice a len cap] = some x) :
    len ≤ maxLen ∧ ∀ i, i < len → ∃ (b off : Nat) (cs : List Value) (n : Nat) (y : DataW H × List MemPlace), a = some ⟨b, off, none⟩ ∧ b < W.heap.size ∧ cs.length = P.cellsOf e ∧
      (∀ j, j < P.cellsOf e → W.cell? ⟨b, off + (i * P.cellsOf e + j), none⟩ = cs[j]?) ∧ DataW.trod enc P W 0 (fun _ => true) true n e cs = some y := by
  rcases Go.Deep.open_slice ht h with ⟨h0, _⟩ | ⟨x, len', cap', m, n, D, Pl, h0, _, hl, hm, hmm, _, hi⟩
  · simp only [List.cons.injEq, and_true, Value.slice.injEq] at h0
    obtain ⟨_, rfl, _⟩ := h0
    exact ⟨Nat.zero_le _, fun i hi => by omega⟩
  · simp only [List.cons.injEq, and_true, Value.slice.injEq] at h0
    obtain ⟨rfl, rfl, rfl⟩ := h0
    refine ⟨Nat.le_trans hl hm, fun i hilt => ?_⟩
    have him : i < m := by rw [hmm]; simp; omega
    obtain ⟨cs, h1, h2⟩ := hi i him
    obtain ⟨_, hlen, hcell⟩ := World.cells?_some h1
    obtain ⟨b, off, spot⟩ := x
    have h00 := hcell 0 hC
    have hsp : spot = none := by
      obtain ⟨cs0, h10, _⟩ := hi 0 (by omega)
      obtain ⟨_, hl0, hc0⟩ := World.cells?_some h10
      have hz := hc0 0 hC
      rw [Go.Deep.add_add] at hz
      have hv : cs0[0]? = some (cs0[0]'(by omega)) := List.getElem?_eq_getElem (by omega)
      rw [hv] at hz
      simpa [Addr.add] using World.cell?_spot hz
    subst hsp
    have hcells : ∀ j, j < P.cellsOf e → W.cell? ⟨b, off + (i * P.cellsOf e + j), none⟩ = cs[j]? := fun j hj => by
      have := hcell j hj
      rwa [Go.Deep.add_add, Go.WideShapes.add_plain] at this
    refine ⟨b, off, cs, n, _, rfl, ?_, hlen, hcells, h2⟩
    have hz := hcells 0 hC
    have hv : cs[0]? = some (cs[0]'(by omega)) := List.getElem?_eq_getElem (by omega)
    rw [hv] at hz
    exact World.block_lt_of_cell? W _ hz
end
end Go.Proofs.YtlhnmcopioeboaaGreat

/- Sectors in memory: rows of them; a map of slices of them, by what the slices' heads are. -/
namespace Go.Proofs.YtlhnmcopioeboaaGreat
set_option maxRecDepth 100000
open Go.RowKit Go.Maps

abbrev Sec := List UInt8
def secCells (s : Sec) : List Value := s.map fun b => .int .u8 (b.toNat : Int)
def flat (l : List Sec) : List Value := l.flatMap secCells

theorem secCells_len (s : Sec) : (secCells s).length = s.length := by simp [secCells]
theorem secCells_one (s : Sec) : ∀ v ∈ secCells s, v.oneCell' = true := by
  intro v hv
  obtain ⟨b, _, rfl⟩ := List.mem_map.1 hv
  rfl
theorem flat_one (l : List Sec) : ∀ v ∈ flat l, v.oneCell' = true := by
  intro v hv
  obtain ⟨s, _, h⟩ := List.mem_flatMap.1 hv
  exact secCells_one s v h
theorem flat_len (l : List Sec) (h : ∀ s ∈ l, s.length = 64) : (flat l).length = l.length * 64 := by
  induction l with
  | nil => rfl
  | cons s r ih =>
    have h1 := ih fun x hx => h x (List.mem_cons_of_mem _ hx)
    have h2 := h s List.mem_cons_self
    simp only [flat, List.flatMap_cons, List.length_append, secCells_len, h2, List.length_cons] at h1 ⊢
    omega
theorem flat_app (l m : List Sec) : flat (l ++ m) = flat l ++ flat m := by simp [flat]
theorem flat_at (l : List Sec) (h : ∀ s ∈ l, s.length = 64) (i : Nat) (hi : i < l.length) (j : Nat) (hj : j < 64) : (flat l)[i * 64 + j]? = (secCells l[i])[j]? := by
  induction l generalizing i with
  | nil => simp at hi
  | cons s r ih =>
    have h2 := h s List.mem_cons_self
    cases i with
    | zero =>
      simp only [flat, List.flatMap_cons, List.getElem_cons_zero, Nat.zero_mul, Nat.zero_add]
      rw [List.getElem?_append_left (by rw [secCells_len]; omega)]
    | succ i =>
      simp only [flat, List.flatMap_cons, List.getElem_cons_succ]
      rw [List.getElem?_append_right (by rw [secCells_len]; omega), secCells_len, h2, show (i + 1) * 64 + j - 64 = i * 64 + j by omega]
      exact ih (fun x hx => h x (List.mem_cons_of_mem _ hx)) i (by simpa using hi)
/-- Block g is a row with room for c sectors. -/
def Shape (w : World) (g c : Nat) : Prop := ∃ cur : Array Value, w.heap[g]? = some (.cells cur 111 (0, 0)) ∧ cur.size = c * 64
theorem Shape.setCell {w : World} {g c : Nat} (h : Shape w g c) (a : Addr) (v : Value) : Shape (w.setCell a v) g c := by
  obtain ⟨cur, h1, h2⟩ := h
  by_cases e : a.block = g
  · refine ⟨if a.spot.isSome then cur else cur.setIfInBounds a.off v, ?_, ?_⟩
    · simp only [World.setCell, Array.getElem?_modify, e, if_true, h1]
      simp
    · split <;> simp [h2]
  · exact ⟨cur, by rw [Below.heap_setCell _ _ _ _ (fun e' => e e'.symm)]; exact h1, h2⟩
theorem Shape.setCells {g c : Nat} (b : Nat) : ∀ (vs : List Value) (o : Nat) (w : World), Shape w g c → Shape (w.setCells b o vs) g c
  | [], _, _, h => h
  | v :: r, o, _, h => Shape.setCells b r (o + 1) _ (h.setCell _ v)
theorem Shape.frozen {w : World} {g c : Nat} (h : Shape w g c) (o : Nat) : w.frozen? ⟨g, o, none⟩ = false := by
  obtain ⟨cur, h1, _⟩ := h
  simp [World.frozen?, h1]
theorem Shape.lt {w : World} {g c : Nat} (h : Shape w g c) : g < w.heap.size := by
  obtain ⟨cur, h1, _⟩ := h
  exact (Array.getElem?_eq_some_iff.1 h1).1

/-- Block g is a row with room for c sectors, of which the first are l. -/
structure Rows (w : World) (g c : Nat) (l : List Sec) : Prop where
  shape : Shape w g c
  cells : ∀ i (h : i < l.length) j, j < 64 → w.cell? ⟨g, i * 64 + j, none⟩ = (secCells l[i])[j]?
  le : l.length ≤ c
  cap : c ≤ maxLen
  len : ∀ s ∈ l, s.length = 64

theorem Rows.at_ {w : World} {g c : Nat} {l : List Sec} (h : Rows w g c l) (i : Nat) (hi : i < l.length) : l[i].length = 64 := h.len _ (List.getElem_mem hi)
theorem Rows.range {w : World} {g c : Nat} {l : List Sec} (h : Rows w g c l) (i : Nat) (hi : i < l.length) : w.rangeAt g (i * 64) (secCells l[i]) := fun j v hv => by
  have hj : j < 64 := by
    have := (List.getElem?_eq_some_iff.1 hv).1
    rw [secCells_len, h.at_ i hi] at this
    exact this
  rw [h.cells i hi j hj, hv]
theorem Rows.there {w : World} {g c : Nat} {l : List Sec} (h : Rows w g c l) (i : Nat) (hi : i < l.length) : w.there g (i * 64) 64 := fun j hj => by
  refine ⟨?_, h.shape.frozen _⟩
  rw [h.cells i hi j hj, List.getElem?_eq_getElem (by rw [secCells_len, h.at_ i hi]; exact hj)]
  rfl
theorem Rows.byte {w : World} {g c : Nat} {l : List Sec} (h : Rows w g c l) (i : Nat) (hi : i < l.length) (j : Nat) (hj : j < 64) : w.cell? ⟨g, i * 64 + j, none⟩ = some (.int .u8 ((l[i].getD j 0).toNat : Int)) := by
  have h1 := h.at_ i hi
  rw [h.cells i hi j hj, secCells, List.getElem?_map, List.getElem?_eq_getElem (by omega), List.getD_eq_getElem?_getD, List.getElem?_eq_getElem (by omega)]
  rfl
theorem Rows.setCells {w : World} {g c : Nat} {l : List Sec} (h : Rows w g c l) (i : Nat) (hi : i < l.length) (x : Sec) (hx : x.length = 64) : Rows (w.setCells g (i * 64) (secCells x)) g c (l.set i x) := by
  refine ⟨h.shape.setCells _ _ _ _, fun k hk j hj => ?_, by simpa using h.le, h.cap, fun s hs => ?_⟩
  · rw [List.length_set] at hk
    by_cases e : i = k
    · subst e
      rw [World.cell?_setCells_in g (secCells x) (i * 64) w (fun j hj => (h.there i hi j (by rw [secCells_len] at hj; omega)).1) j (by rw [secCells_len]; omega)]
      rw [List.getElem_set_self, List.getElem?_eq_getElem (by rw [secCells_len]; omega)]
    · rw [World.cell?_setCells_out g (secCells x) (i * 64) w _ (fun _ _ => by simp only [secCells_len]; omega), List.getElem_set_ne e]
      exact h.cells k hk j hj
  · rcases List.mem_or_eq_of_mem_set hs with h1 | rfl
    · exact h.len s h1
    · exact hx
theorem Rows.setCell {w : World} {g c : Nat} {l : List Sec} (h : Rows w g c l) (i : Nat) (hi : i < l.length) (j : Nat) (hj : j < 64) (b : UInt8) : Rows (w.setCell ⟨g, i * 64 + j, none⟩ (.int .u8 (b.toNat : Int))) g c (l.set i (l[i].set j b)) := by
  have hl := h.at_ i hi
  refine ⟨h.shape.setCell _ _, fun k hk m hm => ?_, by simpa using h.le, h.cap, fun s hs => ?_⟩
  · rw [List.length_set] at hk
    by_cases e : i = k
    · subst e
      rw [List.getElem_set_self]
      by_cases e2 : j = m
      · subst e2
        rw [World.cell?_setCell_same _ _ _ (h.byte i hi j hj), secCells, List.getElem?_map, List.getElem?_set_self (by omega)]
        rfl
      · rw [World.cell?_setCell_other _ _ _ _ (by intro h; injection h with _ h _; omega), h.cells i hk m hm, secCells, secCells, List.getElem?_map, List.getElem?_map, List.getElem?_set_ne e2]
    · rw [World.cell?_setCell_other _ _ _ _ (by intro h; injection h with _ h _; omega), List.getElem_set_ne e]
      exact h.cells k hk m hm
  · rcases List.mem_or_eq_of_mem_set hs with h1 | rfl
    · exact h.len s h1
    · rw [List.length_set]; exact hl
theorem Rows.same {w w' : World} {g c : Nat} {l : List Sec} (h : Rows w g c l) (hb : w'.heap[g]? = w.heap[g]?) : Rows w' g c l := by
  obtain ⟨⟨cur, h1, h2⟩, h3, h4, h5, h6⟩ := h
  exact ⟨⟨cur, hb.trans h1, h2⟩, fun i hi j hj => by rw [World.cell?_of_block (w := w) hb]; exact h3 i hi j hj, h4, h5, h6⟩
theorem Rows.lt {w : World} {g c : Nat} {l : List Sec} (h : Rows w g c l) : g < w.heap.size := h.shape.lt
theorem Rows.owns {w : World} {g c : Nat} {l : List Sec} (h : Rows w g c l) (B : Nat) (hB : B ≤ g) : w.ownsRow B 111 64 (.slice (some ⟨g, 0, none⟩) l.length c) l.length (flat l) := by
  obtain ⟨⟨cur, h1, h2⟩, h3, h4, h5, h6⟩ := h
  refine ⟨flat_len l h6, .inr ⟨g, c, cur, rfl, hB, h1, h4, h5, h2, ?_⟩⟩
  apply List.ext_getElem?
  intro k
  by_cases hk : k < l.length * 64
  · have e : k = k / 64 * 64 + k % 64 := by omega
    have hi : k / 64 < l.length := by omega
    rw [List.getElem?_take_of_lt hk, e, flat_at l h6 _ hi _ (by omega), ← h3 _ hi _ (by omega)]
    simp [World.cell?, h1]
  · rw [List.getElem?_eq_none (by rw [List.length_take]; omega), List.getElem?_eq_none (by rw [flat_len l h6]; omega)]
theorem rows_of_owns {w : World} {B g c n : Nat} {l : List Sec} (hn : l.length = n) (h : w.ownsRow B 111 64 (.slice (some ⟨g, 0, none⟩) n c) n (flat l)) (h6 : ∀ s ∈ l, s.length = 64) : Rows w g c l := by
  subst hn
  rcases h.2 with ⟨h0, _⟩ | ⟨g', c', cur, hv, hB, h1, h4, h5, h2, h3⟩
  · cases h0
  · cases hv
    refine ⟨⟨cur, h1, h2⟩, fun i hi j hj => ?_, h4, h5, h6⟩
    rw [← flat_at l h6 i hi j hj, ← h3, List.getElem?_take_of_lt (by omega)]
    simp [World.cell?, h1]

/-- A slice of sectors, by its head. -/
abbrev Hd := Option (Nat × Nat × Nat)
def Hd.val : Hd → Value
  | none => .slice none 0 0
  | some (g, n, c) => .slice (some ⟨g, 0, none⟩) n c
def Hd.dat : Hd → DataW Unit
  | none => .nil
  | some (g, n, c) => .agg [.lit (.int .u64 g), .lit (.int .u64 n), .lit (.int .u64 c)]
def hdr : Value → Option (DataW Unit × List MemPlace)
  | .slice (some ⟨g, 0, none⟩) n c => some (Hd.dat (some (g, n, c)), [])
  | .slice none 0 0 => some (Hd.dat none, [])
  | _ => none
theorem hdr_val (h : Hd) : hdr h.val = some (h.dat, []) := by
  cases h <;> rfl
theorem hdr_inv {v : Value} {z : DataW Unit × List MemPlace} (h : hdr v = some z) : ∃ x : Hd, v = x.val ∧ z = (x.dat, []) := by
  unfold hdr at h
  split at h
  · rename_i g n c
    cases h; exact ⟨some (g, n, c), rfl, rfl⟩
  · cases h; exact ⟨none, rfl, rfl⟩
  · cases h
theorem dat_inj {a b : Hd} (h : a.dat = b.dat) : a = b := by
  rcases a with _ | ⟨g, n, c⟩ <;> rcases b with _ | ⟨g', n', c'⟩ <;> simp [Hd.dat] at h ⊢
  · omega

theorem law : Keyed Tryz.prog 3 := int_keyed Tryz.underlying3
theorem zeroS (w : World) : (zeroValue 84).run Tryz.prog w = .ok (.slice none 0 0) w := by kernel_rfl
theorem keyI (k : Int) (h : (Lit.int .i64 k).wf = true) : keyOf Tryz.prog 3 (.int .i64 k) = some (.int .i64 k) := keyOf_int_mk Tryz.underlying3 h
theorem isKey (k : Int) (h : (Lit.int .i64 k).wf = true) : WideAt.IsKeyLit (.int .i64 k) := law.key (keyI k h)
theorem wfN (k : Nat) (h : k < 9223372036854775808) : (Lit.int .i64 (k : Int)).wf = true := WalkArith.wf_i64 (by omega)

/-- Block b is a map of at most n slices of sectors: at k the one with the head f k. -/
def CMap (w : World) (b n : Nat) (f : Int → Hd) : Prop :=
  ∃ D : DataW Unit, w.ownsMap Tryz.prog 3 hdr b n D ∧ (∀ k, (Lit.int .i64 k).wf = true → D.atKey (.int .i64 k) .nil = (f k).dat) ∧ ∀ k, (Lit.int .i64 k).wf = true → has D (.int .i64 k) = (f k).isSome

theorem CMap.lt {w : World} {b n : Nat} {f : Int → Hd} (h : CMap w b n f) : b < w.heap.size := by
  obtain ⟨D, h1, _⟩ := h
  exact h1.lt
theorem CMap.same {w w' : World} {b n : Nat} {f : Int → Hd} (h : CMap w b n f) (hb : w'.heap[b]? = w.heap[b]?) : CMap w' b n f := by
  obtain ⟨D, ⟨es, cl, h1, r⟩, h2⟩ := h
  exact ⟨D, ⟨es, cl, hb.trans h1, r⟩, h2⟩
theorem CMap.isMap {w : World} {b n : Nat} {f : Int → Hd} (h : CMap w b n f) : ∃ es cl, w.heap[b]? = some (.map es cl) := by
  obtain ⟨D, ⟨es, cl, h1, r⟩, h2⟩ := h
  exact ⟨es, cl, h1⟩
theorem CMap.congr {w : World} {b n : Nat} {f g : Int → Hd} (h : CMap w b n f) (e : ∀ k, (Lit.int .i64 k).wf = true → f k = g k) : CMap w b n g := by
  obtain ⟨D, h1, h2, h3⟩ := h
  exact ⟨D, h1, fun k hk => by rw [h2 k hk, e k hk], fun k hk => by rw [h3 k hk, e k hk]⟩
theorem CMap.made (w : World) : CMap (w.alloc (.map #[] 0)) w.heap.size 0 (fun _ => none) :=
  ⟨.map [], World.ownsMap_made w _ _ _, fun _ _ => rfl, fun _ _ => rfl⟩
theorem CMap.look {w : World} {b n : Nat} {f : Int → Hd} (h : CMap w b n f) (k : Int) (hk : (Lit.int .i64 k).wf = true) :
    (Instr.lookup 85 (.map (some b)) (.int .i64 k) false).run Tryz.prog w = .ok (f k).val w := by
  obtain ⟨D, h1, h2, _⟩ := h
  obtain ⟨v, ps, hr, hv⟩ := h1.lookup (z := .slice none 0 0) (zd := .nil) (zp := []) law Tryz.underlying85 (zeroS w) rfl (keyI k hk)
  obtain ⟨x, rfl, hx⟩ := hdr_inv hv
  have : D.atKey (.int .i64 k) .nil = x.dat := congrArg Prod.fst hx
  rw [h2 k hk] at this
  rw [hr, dat_inj this]
/-- Nothing but block b has turned, and it is a map still. -/
theorem CMap.put {w : World} {b n : Nat} {f : Int → Hd} (h : CMap w b n f) (k : Int) (hk : (Lit.int .i64 k).wf = true) (x : Nat × Nat × Nat) (hn : n < maxLen) :
    ∃ w', (Instr.mapUpdate 85 (.map (some b)) (.int .i64 k) (Hd.val (some x))).run Tryz.prog w = .ok () w' ∧ CMap w' b (n + 1) (fun j => if j = k then some x else f j) ∧ w.mapTurned w' b := by
  obtain ⟨D, h1, h2, h3⟩ := h
  obtain ⟨w', hr, h4, h5⟩ := h1.store law Tryz.underlying85 hn (keyI k hk) (hdr_val (some x))
  refine ⟨w', hr, ⟨_, h4, fun j hj => ?_, fun j hj => ?_⟩, h5⟩
  · by_cases e : j = k
    · subst e
      rw [atKey_put_same h1.isMap (isKey j hj)]; simp
    · rw [atKey_put_other (by intro h; apply e; cases h; rfl)]; simp only [if_neg e]; rw [h2 j hj]
  · by_cases e : j = k
    · subst e
      rw [has_put_same h1.isMap (isKey j hj)]; simp
    · rw [has_put_other (by intro h; apply e; cases h; rfl)]; simp only [if_neg e]; rw [h3 j hj]
theorem CMap.wipe {w : World} {b n : Nat} {f : Int → Hd} (h : CMap w b n f) (ty : TypeId) :
    ∃ w', (Builtin.clear_ #[85] ty #[.map (some b)]).run Tryz.prog w = .ok (.tuple #[]) w' ∧ CMap w' b 0 (fun _ => none) ∧ w.mapTurned w' b := by
  obtain ⟨D, ⟨es, cl, h1, F, hs, hD⟩, h2⟩ := h
  refine ⟨ChangeMaps.setBlock w b (.map #[] cl), ?_, ⟨.map [], ⟨#[], cl, ChangeMaps.heap_setBlock_same h1 _, ⟨by simp, ?_, by simp⟩, Nat.le_refl _, rfl⟩, fun _ _ => rfl, fun _ _ => rfl⟩, ⟨es, cl, #[], cl, h1, rfl⟩⟩
  · simp [Builtin.clear_, run_underlying Tryz.underlying85, MapKept.run_getObj_map h1, Result.andThen, MapKept.run_setObj_map _ h1]
    rfl
  · exact MapKept.stamped_empty cl
end Go.Proofs.YtlhnmcopioeboaaGreat

/- A device in memory, and what its small methods answer. -/
namespace Go.Proofs.YtlhnmcopioeboaaGreat
set_option maxRecDepth 100000
open Go.RowKit Go.Maps

/-- A device, as it is thought: what stands on the medium, what was written since, and the rest. cnt: a bound for how much was written since. -/
structure Dv where
  med : List Sec
  since : Nat → List Sec
  lost : Bool
  fused : Bool
  left : Nat
  cnt : Nat
structure DvOk (S : Dv) : Prop where
  n1 : 1 ≤ S.med.length
  n2 : S.med.length ≤ 4096
  out : ∀ i, S.med.length ≤ i → S.since i = []
  left : S.left < 9223372036854775808
  cnts : ∀ i, (S.since i).length ≤ S.cnt
/-- Nothing has turned but blocks of which fp holds, and new ones. -/
structure Turn (fp : Nat → Prop) (w w' : World) : Prop where
  os : w'.os = w.os
  tape : w'.tape = w.tape
  output : w'.output = w.output
  size : w.heap.size ≤ w'.heap.size
  block : ∀ k, k < w.heap.size → ¬ fp k → w'.heap[k]? = w.heap[k]?
theorem Turn.refl (fp : Nat → Prop) (w : World) : Turn fp w w := ⟨rfl, rfl, rfl, Nat.le_refl _, fun _ _ _ => rfl⟩
theorem Turn.trans {fp fp' : Nat → Prop} {a b c : World} (h : Turn fp a b) (k : Turn fp' b c) (hf : ∀ i, fp' i → fp i ∨ a.heap.size ≤ i) : Turn fp a c :=
  ⟨k.os.trans h.os, k.tape.trans h.tape, k.output.trans h.output, Nat.le_trans h.size k.size, fun i hi hn => (k.block i (Nat.lt_of_lt_of_le hi h.size) (fun e => by rcases hf i e with e | e; exact hn e; omega)).trans (h.block i hi hn)⟩
theorem Turn.below {fp : Nat → Prop} {B : Nat} {w w' : World} (h : Turn fp w w') (hB : ∀ k, fp k → B ≤ k) (hs : B ≤ w.heap.size) : Below B w w' :=
  ⟨h.os, h.tape, h.output, h.size, fun k hk => h.block k (by omega) fun e => by have := hB k e; omega⟩
theorem Turn.of_below {fp : Nat → Prop} {w w' : World} (h : Below w.heap.size w w') : Turn fp w w' := ⟨h.os, h.tape, h.output, h.size, fun k hk _ => h.block k hk⟩
theorem Turn.setCell {fp : Nat → Prop} {a w : World} (h : Turn fp a w) {p : Addr} (hp : fp p.block ∨ a.heap.size ≤ p.block) (u : Value) : Turn fp a (w.setCell p u) :=
  ⟨h.os, h.tape, h.output, by simpa [World.setCell] using h.size, fun k hk hn => by
    rw [Below.heap_setCell _ _ _ _ (fun e => by rcases hp with hp | hp; exact hn (e ▸ hp); omega)]
    exact h.block k hk hn⟩
theorem heap_setCells (b : Nat) : ∀ (vs : List Value) (o : Nat) (w : World), (w.setCells b o vs).heap.size = w.heap.size ∧ ∀ k, k ≠ b → (w.setCells b o vs).heap[k]? = w.heap[k]?
  | [], _, _ => ⟨rfl, fun _ _ => rfl⟩
  | v :: r, o, w => by
    obtain ⟨h1, h2⟩ := heap_setCells b r (o + 1) (w.setCell ⟨b, o, none⟩ v)
    exact ⟨h1.trans (by simp [World.setCell]), fun k hk => (h2 k hk).trans (Below.heap_setCell _ _ _ _ hk)⟩
theorem env_setCells (b : Nat) : ∀ (vs : List Value) (o : Nat) (w : World), (w.setCells b o vs).os = w.os ∧ (w.setCells b o vs).tape = w.tape ∧ (w.setCells b o vs).output = w.output
  | [], _, _ => ⟨rfl, rfl, rfl⟩
  | v :: r, o, w => env_setCells b r (o + 1) (w.setCell ⟨b, o, none⟩ v)
theorem Turn.setCells {fp : Nat → Prop} {a w : World} (h : Turn fp a w) {b : Nat} (hp : fp b) (o : Nat) (vs : List Value) : Turn fp a (w.setCells b o vs) := by
  obtain ⟨h1, h2⟩ := heap_setCells b vs o w
  obtain ⟨e1, e2, e3⟩ := env_setCells b vs o w
  exact ⟨e1.trans h.os, e2.trans h.tape, e3.trans h.output, by rw [h1]; exact h.size, fun k hk hn => (h2 k (fun e => hn (e ▸ hp))).trans (h.block k hk hn)⟩
theorem Turn.mapTurned {fp : Nat → Prop} {a w w' : World} (h : Turn fp a w) {b : Nat} (hp : fp b) (ht : w.mapTurned w' b) : Turn fp a w' := by
  have hg := ht.grown
  exact ⟨hg.os.trans h.os, hg.tape.trans h.tape, hg.output.trans h.output, Nat.le_trans h.size hg.size, fun k hk hn => (hg.block k (Nat.lt_of_lt_of_le hk h.size) (fun e => by cases e; exact hn hp)).trans (h.block k hk hn)⟩
theorem mapTurned_size {w w' : World} {b : Nat} (ht : w.mapTurned w' b) : w'.heap.size = w.heap.size := by
  obtain ⟨_, _, _, _, _, rfl⟩ := ht
  simp [ChangeMaps.setBlock]

/-- The heads of the slices of versions. -/
def hdOf (S : Dv) (hd : Nat → Nat × Nat) (k : Int) : Hd :=
  if k < 0 ∨ S.since k.toNat = [] then none else some ((hd k.toNat).1, (S.since k.toNat).length, (hd k.toNat).2)
/-- The cells of the device's own block. -/
def dvCells (S : Dv) (mb cb : Nat) : Array Value := #[.slice (some ⟨mb, 0, none⟩) S.med.length S.med.length, .map (some cb), .bool S.lost, .bool S.fused, .int .i64 (S.left : Int)]
structure DevIn (w : World) (b mb cb m : Nat) (hd : Nat → Nat × Nat) (S : Dv) (fp : Nat → Prop) : Prop where
  ok : DvOk S
  blk : w.heap[b]? = some (.cells (dvCells S mb cb) 87 (0, 0))
  med : Rows w mb S.med.length S.med
  map : CMap w cb m (hdOf S hd)
  mle : m ≤ S.cnt
  vers : ∀ i, S.since i ≠ [] → Rows w (hd i).1 (hd i).2 (S.since i)
  inj : ∀ i j, S.since i ≠ [] → S.since j ≠ [] → (hd i).1 = (hd j).1 → i = j
  apart : ∀ i, S.since i ≠ [] → (hd i).1 ≠ mb
  fb : fp b
  fm : fp mb
  fc : fp cb
  fv : ∀ i, S.since i ≠ [] → fp (hd i).1
  lt : ∀ k, fp k → k < w.heap.size
/-- Block b is a device S; fp holds of its blocks. -/
def DevAt (w : World) (b : Nat) (S : Dv) (fp : Nat → Prop) : Prop := ∃ mb cb m hd, DevIn w b mb cb m hd S fp

section
variable {w : World} {b mb cb m : Nat} {hd : Nat → Nat × Nat} {S : Dv} {fp : Nat → Prop}
theorem DevIn.bm (h : DevIn w b mb cb m hd S fp) : b ≠ mb := by
  intro e
  obtain ⟨cur, h1, _⟩ := h.med.shape
  have := h.blk
  rw [e, h1] at this
  cases this
theorem DevIn.bv (h : DevIn w b mb cb m hd S fp) (i : Nat) (hi : S.since i ≠ []) : b ≠ (hd i).1 := by
  intro e
  obtain ⟨cur, h1, _⟩ := (h.vers i hi).shape
  have := h.blk
  rw [e, h1] at this
  cases this
theorem DevIn.cbb (h : DevIn w b mb cb m hd S fp) : cb ≠ b := by
  intro e
  obtain ⟨es, cl, h1⟩ := h.map.isMap
  rw [e, h.blk] at h1
  cases h1
theorem DevIn.cmb (h : DevIn w b mb cb m hd S fp) : cb ≠ mb := by
  intro e
  obtain ⟨es, cl, h1⟩ := h.map.isMap
  obtain ⟨cur, h2, _⟩ := h.med.shape
  rw [e, h2] at h1
  cases h1
theorem DevIn.cv (h : DevIn w b mb cb m hd S fp) (i : Nat) (hi : S.since i ≠ []) : cb ≠ (hd i).1 := by
  intro e
  obtain ⟨es, cl, h1⟩ := h.map.isMap
  obtain ⟨cur, h2, _⟩ := (h.vers i hi).shape
  rw [e, h2] at h1
  cases h1
theorem DevIn.c0 (h : DevIn w b mb cb m hd S fp) : w.cell? ⟨b, 0, none⟩ = some (.slice (some ⟨mb, 0, none⟩) S.med.length S.med.length) := by simp [World.cell?, h.blk, dvCells]
theorem DevIn.c1 (h : DevIn w b mb cb m hd S fp) : w.cell? ⟨b, 1, none⟩ = some (.map (some cb)) := by simp [World.cell?, h.blk, dvCells]
theorem DevIn.c2 (h : DevIn w b mb cb m hd S fp) : w.cell? ⟨b, 2, none⟩ = some (.bool S.lost) := by simp [World.cell?, h.blk, dvCells]
theorem DevIn.c3 (h : DevIn w b mb cb m hd S fp) : w.cell? ⟨b, 3, none⟩ = some (.bool S.fused) := by simp [World.cell?, h.blk, dvCells]
theorem DevIn.c4 (h : DevIn w b mb cb m hd S fp) : w.cell? ⟨b, 4, none⟩ = some (.int .i64 (S.left : Int)) := by simp [World.cell?, h.blk, dvCells]
theorem DevIn.fr (h : DevIn w b mb cb m hd S fp) (o : Nat) : w.frozen? ⟨b, o, none⟩ = false := by simp [World.frozen?, h.blk]
theorem DevIn.blt (h : DevIn w b mb cb m hd S fp) : b < w.heap.size := h.lt b h.fb

/-- Only fields of the device's own block have turned. -/
theorem DevIn.field (h : DevIn w b mb cb m hd S fp) (S' : Dv) (e1 : S'.med = S.med) (e2 : S'.since = S.since) (e3 : S'.cnt = S.cnt) (hl : S'.left < 9223372036854775808) (w' : World) (hz : w'.heap.size = w.heap.size)
    (hb : w'.heap[b]? = some (.cells (dvCells S' mb cb) 87 (0, 0))) (ho : ∀ k, k ≠ b → w'.heap[k]? = w.heap[k]?) : DevIn w' b mb cb m hd S' fp := by
  obtain ⟨med', since', lost', fused', left', cnt'⟩ := S'
  simp only at e1 e2 e3 hl
  subst e1 e2 e3
  exact ⟨⟨h.ok.n1, h.ok.n2, h.ok.out, hl, h.ok.cnts⟩, hb, h.med.same (ho _ h.bm.symm), h.map.same (ho _ h.cbb), h.mle, fun i hi => (h.vers i hi).same (ho _ (h.bv i hi).symm), h.inj, h.apart, h.fb, h.fm, h.fc, h.fv, fun k hk => by rw [hz]; exact h.lt k hk⟩
theorem DevIn.set2 (h : DevIn w b mb cb m hd S fp) (x : Bool) : DevIn (w.setCell ⟨b, 2, none⟩ (.bool x)) b mb cb m hd { S with lost := x } fp :=
  h.field { S with lost := x } rfl rfl rfl h.ok.left _ (by simp [World.setCell]) (by simp [World.setCell, Array.getElem?_modify, h.blk, dvCells]) fun k hk => Below.heap_setCell _ _ _ _ hk
theorem DevIn.set3 (h : DevIn w b mb cb m hd S fp) (x : Bool) : DevIn (w.setCell ⟨b, 3, none⟩ (.bool x)) b mb cb m hd { S with fused := x } fp :=
  h.field { S with fused := x } rfl rfl rfl h.ok.left _ (by simp [World.setCell]) (by simp [World.setCell, Array.getElem?_modify, h.blk, dvCells]) fun k hk => Below.heap_setCell _ _ _ _ hk
theorem DevIn.set4 (h : DevIn w b mb cb m hd S fp) (x : Nat) (hx : x < 9223372036854775808) : DevIn (w.setCell ⟨b, 4, none⟩ (.int .i64 (x : Int))) b mb cb m hd { S with left := x } fp :=
  h.field { S with left := x } rfl rfl rfl hx _ (by simp [World.setCell]) (by simp [World.setCell, Array.getElem?_modify, h.blk, dvCells]) fun k hk => Below.heap_setCell _ _ _ _ hk
/-- None of the device's blocks has turned. -/
theorem DevIn.same (h : DevIn w b mb cb m hd S fp) {w' : World} (hz : w.heap.size ≤ w'.heap.size) (ho : ∀ k, fp k → w'.heap[k]? = w.heap[k]?) : DevIn w' b mb cb m hd S fp :=
  ⟨h.ok, (ho b h.fb).trans h.blk, h.med.same (ho _ h.fm), h.map.same (ho _ h.fc), h.mle, fun i hi => (h.vers i hi).same (ho _ (h.fv i hi)), h.inj, h.apart, h.fb, h.fm, h.fc, h.fv, fun k hk => Nat.lt_of_lt_of_le (h.lt k hk) hz⟩
theorem DevIn.below (h : DevIn w b mb cb m hd S fp) {w' : World} (hb : Below w.heap.size w w') : DevIn w' b mb cb m hd S fp := h.same hb.size fun k hk => hb.block k (h.lt k hk)
theorem DevAt.same (h : DevAt w b S fp) {w' : World} (hz : w.heap.size ≤ w'.heap.size) (ho : ∀ k, fp k → w'.heap[k]? = w.heap[k]?) : DevAt w' b S fp := by
  obtain ⟨mb, cb, m, hd, h⟩ := h
  exact ⟨mb, cb, m, hd, h.same hz ho⟩
theorem DevAt.below (h : DevAt w b S fp) {w' : World} (hb : Below w.heap.size w w') : DevAt w' b S fp := by
  obtain ⟨mb, cb, m, hd, h⟩ := h
  exact ⟨mb, cb, m, hd, h.below hb⟩
theorem DevAt.ok (h : DevAt w b S fp) : DvOk S := by
  obtain ⟨mb, cb, m, hd, h⟩ := h
  exact h.ok
theorem DevAt.drew (h : DevAt w b S fp) : DevAt w.drew b S fp := h.below (Below.refl _ _).drew
theorem DevIn.drew (h : DevIn w b mb cb m hd S fp) : DevIn w.drew b mb cb m hd S fp := h.below (Below.refl _ _).drew
end

/-- What becomes of a world in which something was done to a device. -/
def Did (fp : Nat → Prop) (b : Nat) (S' : Dv) (w w' : World) : Prop := ∃ fp', DevAt w' b S' fp' ∧ (∀ k, fp' k → fp k ∨ w.heap.size ≤ k) ∧ Turn fp w w'

theorem lost_any (b : Nat) (S : Dv) (fp : Nat → Prop) (w : World) (h : DevAt w b S fp) :
    Calls Tryz.prog 44 #[.pointer (some ⟨b, 0, none⟩)] w fun e w' => e = .returned (.bool S.lost) ∧ w = w' := by
  obtain ⟨mb, cb, m, hd, h⟩ := h
  have c2 := h.c2
  clear h
  go_enter Tryz.func44, Tryz.ntmps44
  go_wp2
  go_ret
  exact ⟨rfl, rfl⟩
theorem lost_nil (w : World) :
    Calls Tryz.prog 44 #[.pointer none] w fun e w' => e = .returned (.bool true) ∧ w = w' := by
  go_enter Tryz.func44, Tryz.ntmps44
  go_wp2
  go_ret
  exact ⟨rfl, rfl⟩
theorem secs_any (b : Nat) (S : Dv) (fp : Nat → Prop) (w : World) (h : DevAt w b S fp) :
    Calls Tryz.prog 43 #[.pointer (some ⟨b, 0, none⟩)] w fun e w' => e = .returned (.int .i64 S.med.length) ∧ w = w' := by
  obtain ⟨mb, cb, m, hd, h⟩ := h
  have c0 := h.c0
  clear h
  go_enter Tryz.func43, Tryz.ntmps43
  go_wp2
  go_ret
  exact ⟨rfl, rfl⟩
theorem secs_nil (w : World) :
    Calls Tryz.prog 43 #[.pointer none] w fun e w' => e = .returned (.int .i64 0) ∧ w = w' := by
  go_enter Tryz.func43, Tryz.ntmps43
  go_wp2
  go_ret
  exact ⟨rfl, rfl⟩
/-- What keeps a sector from being reached. -/
def reachE (S : Dv) (k : Int) : Int := if S.lost then 6 else if k < 0 ∨ (S.med.length : Int) ≤ k then 5 else 0
theorem reach_any (b : Nat) (S : Dv) (fp : Nat → Prop) (k : Int) (w : World) (h : DevAt w b S fp) :
    Calls Tryz.prog 45 #[.pointer (some ⟨b, 0, none⟩), .int .i64 k] w fun e w' => e = .returned (.int .i64 (reachE S k)) ∧ w = w' := by
  have hL := lost_any b S fp w h
  obtain ⟨mb, cb, m, hd, h⟩ := h
  have c0 := h.c0
  have hn := h.ok.n2
  clear h
  unfold reachE
  generalize S.lost = L at *
  generalize S.med.length = n at *
  by_cases hk : k < 0
  · go_enter Tryz.func45, Tryz.ntmps45
    go_wp2_with fail
    refine hL.mono ?_
    rintro e w1 ⟨rfl, rfl⟩
    cases L
    all_goals
      go_wp2
      go_ret
      exact ⟨by simp [*], rfl⟩
  · have hk' : decide (k < 0) = false := by simpa using hk
    by_cases hm : (n : Int) ≤ k
    · go_enter Tryz.func45, Tryz.ntmps45
      go_wp2_with fail
      refine hL.mono ?_
      rintro e w1 ⟨rfl, rfl⟩
      cases L
      all_goals
        go_wp2
        go_ret
        exact ⟨by simp [*], rfl⟩
    · have hm' : decide ((n : Int) ≤ k) = false := by simpa using hm
      go_enter Tryz.func45, Tryz.ntmps45
      go_wp2_with fail
      refine hL.mono ?_
      rintro e w1 ⟨rfl, rfl⟩
      cases L
      all_goals
        go_wp2
        go_ret
        exact ⟨by simp [*], rfl⟩
theorem reach_nil (k : Int) (w : World) :
    Calls Tryz.prog 45 #[.pointer none, .int .i64 k] w fun e w' => e = .returned (.int .i64 6) ∧ w = w' := by
  go_enter Tryz.func45, Tryz.ntmps45
  go_wp2_with fail
  refine (lost_nil _).mono ?_
  rintro e w1 ⟨rfl, rfl⟩
  go_wp2
  go_ret
  exact ⟨rfl, rfl⟩
end Go.Proofs.YtlhnmcopioeboaaGreat

/- A measure: its groups as a list of pairs (kind, devices), and its sectors; how it lies in memory; a measure that came in, opened. -/
namespace Go.Proofs.YtlhnmcopioeboaaGreat
set_option maxRecDepth 100000
open Go.RowKit

theorem bounds_i64 {n : Int} (h : (Lit.int .i64 n).wf = true) : -9223372036854775808 ≤ n ∧ n ≤ 9223372036854775807 := by
  simpa [Lit.wf, IntKind.min, IntKind.max, IntKind.signed, IntKind.bits] using h

/-- A group's two cells, from o on of block g, an old one. -/
structure IsG (w : World) (g o : Nat) (x : Int × Int) : Prop where
  lt : g < w.heap.size
  c0 : w.cell? ⟨g, o, none⟩ = some (.int .i64 x.1)
  c1 : w.cell? ⟨g, o + 1, none⟩ = some (.int .i64 x.2)
  k0 : -9223372036854775808 ≤ x.1
  k1 : x.1 ≤ 9223372036854775807
  w0 : -9223372036854775808 ≤ x.2
  w1 : x.2 ≤ 9223372036854775807
/-- A slice of groups. -/
def Grps (w : World) (a : Option Addr) (n : Nat) (l : List (Int × Int)) : Prop :=
  n ≤ maxLen ∧ l.length = n ∧ ∀ i (h : i < l.length), ∃ g o, a = some ⟨g, o, none⟩ ∧ IsG w g (o + i * 2) l[i]
/-- A measure. -/
def Meas (w : World) (v : Value) (l : List (Int × Int)) (s : Int) : Prop :=
  ∃ a n c, v = .agg #[.slice a n c, .int .i64 s] ∧ Grps w a n l ∧ -9223372036854775808 ≤ s ∧ s ≤ 9223372036854775807

theorem IsG.below {w w' : World} {g o : Nat} {x : Int × Int} (h : IsG w g o x) (hb : Below w.heap.size w w') : IsG w' g o x := by
  have e : ∀ j, w'.cell? ⟨g, j, none⟩ = w.cell? ⟨g, j, none⟩ := fun j => hb.cell (p := ⟨g, j, none⟩) h.lt
  exact ⟨Nat.lt_of_lt_of_le h.lt hb.size, by rw [e]; exact h.c0, by rw [e]; exact h.c1, h.k0, h.k1, h.w0, h.w1⟩
theorem Grps.below {w w' : World} {a : Option Addr} {n : Nat} {l : List (Int × Int)} (h : Grps w a n l) (hb : Below w.heap.size w w') : Grps w' a n l := by
  obtain ⟨h1, h2, h3⟩ := h
  refine ⟨h1, h2, fun i hi => ?_⟩
  obtain ⟨g, o, ha, hx⟩ := h3 i hi
  exact ⟨g, o, ha, hx.below hb⟩
theorem Meas.below {w w' : World} {v : Value} {l : List (Int × Int)} {s : Int} (h : Meas w v l s) (hb : Below w.heap.size w w') : Meas w' v l s := by
  obtain ⟨a, n, c, hv, hg, hs⟩ := h
  exact ⟨a, n, c, hv, hg.below hb, hs⟩
/-- Worlds that grow one behind the other. -/
theorem next {w w1 w2 : World} (h : Below w.heap.size w w1) (k : Below w1.heap.size w1 w2) : Below w.heap.size w w2 := h.trans (k.mono h.size)
theorem boxed (w : World) (o : Obj) : Below w.heap.size w (w.alloc o) := (Below.refl _ w).alloc (Nat.le_refl _) o

theorem open_geom {H : Type} {enc : TypeId × Value → H} {W : World} {base : Nat} {v : Value} {d : DataW H} {p : List MemPlace}
    (hok : Value.okWide Tryz.prog W .any base 24 v) (h : DataW.Trod enc Tryz.prog W 0 (fun _ => true) true 24 v d p) :
    ∃ l s, Meas W v l s := by
  have hc2 : Tryz.prog.cellsOf 24 = 2 := by kernel_rfl
  obtain ⟨cs, rfl, hsz, _⟩ : ∃ cs, v = .agg cs ∧ cs.size = Tryz.prog.cellsOf 24 ∧ Row.okWide Tryz.prog W .any base 24 cs := by
    simpa [Value.okWide, Tryz.underlying24] using hok
  rw [hc2] at hsz
  obtain ⟨ll⟩ := cs
  match ll, hsz with
  | [c0, c1], _ =>
  obtain ⟨fuel, hf⟩ := h
  obtain ⟨xs, n', _, _, _, hxl, hfld⟩ := DataW.trod_struct Tryz.underlying24 hf
  have hx : xs.length = 2 := hxl
  match xs, hx with
  | [y0, y1], _ =>
  have k3 : Tryz.prog.cellsOf 3 = 1 := by kernel_rfl
  have k22 : Tryz.prog.cellsOf 22 = 1 := by kernel_rfl
  have e0 : DataW.trod enc Tryz.prog W 0 (fun _ => true) true n' 22 (([c0, c1].drop 0).take (Tryz.prog.cellsOf 22)) = some y0 := hfld 0 _ rfl
  have e1 : DataW.trod enc Tryz.prog W 0 (fun _ => true) true n' 3 (([c0, c1].drop 1).take (Tryz.prog.cellsOf 3)) = some y1 := hfld 1 _ rfl
  rw [k22] at e0
  rw [k3] at e1
  obtain ⟨s, hs, _, ws⟩ := DataW.trod_int Tryz.underlying3 e1
  simp at hs
  subst hs
  obtain ⟨s0, s1⟩ := bounds_i64 ws
  have e0' : DataW.trod enc Tryz.prog W 0 (fun _ => true) true n' 22 [c0] = some y0 := e0
  obtain ⟨a, len, cap, rfl⟩ : ∃ a len cap, c0 = .slice a len cap := by
    rcases Go.Deep.open_slice Tryz.underlying22 e0' with ⟨h0, _⟩ | ⟨x, len', cap', m, n, D, Pl, h0, _⟩
    · simp only [List.cons.injEq, and_true] at h0
      exact ⟨_, _, _, h0⟩
    · simp only [List.cons.injEq, and_true] at h0
      exact ⟨_, _, _, h0⟩
  have hC : Tryz.prog.cellsOf 52 = 2 := by kernel_rfl
  obtain ⟨hl, hi⟩ := slice_elems Tryz.underlying22 (by rw [hC]; omega) e0'
  have hone : ∀ i, i < len → ∃ x : Int × Int, ∃ g o, a = some ⟨g, o, none⟩ ∧ IsG W g (o + i * 2) x := fun i hlt => by
    obtain ⟨b, off, cs, n, y, rfl, hb, hlen, hcell, ht⟩ := hi i hlt
    rw [hC] at hlen hcell
    obtain ⟨xs, n', _, _, _, hxl, hfld⟩ := DataW.trod_struct Tryz.underlying52 ht
    match cs, hlen with
    | [v0, v1], _ =>
      have hx : xs.length = 2 := hxl
      match xs, hx with
      | [y0, y1], _ =>
        have e0 : DataW.trod enc Tryz.prog W 0 (fun _ => true) true n' 3 (([v0, v1].drop 0).take (Tryz.prog.cellsOf 3)) = some y0 := hfld 0 _ rfl
        have e1 : DataW.trod enc Tryz.prog W 0 (fun _ => true) true n' 3 (([v0, v1].drop 1).take (Tryz.prog.cellsOf 3)) = some y1 := hfld 1 _ rfl
        rw [k3] at e0 e1
        obtain ⟨d0, hd0, _, w0⟩ := DataW.trod_int Tryz.underlying3 e0
        obtain ⟨d1, hd1, _, w1⟩ := DataW.trod_int Tryz.underlying3 e1
        simp at hd0 hd1
        subst hd0 hd1
        obtain ⟨a0, a1⟩ := bounds_i64 w0
        obtain ⟨b0, b1⟩ := bounds_i64 w1
        have h0 := hcell 0 (by omega)
        have h1 := hcell 1 (by omega)
        refine ⟨(d0, d1), b, off, rfl, ⟨hb, ?_, ?_, a0, a1, b0, b1⟩⟩
        · simpa using h0
        · simpa [Nat.add_assoc] using h1
  have hsuf : ∀ n, n ≤ len → ∃ l : List (Int × Int), l.length = n ∧ ∀ i (h : i < l.length), ∃ g o, a = some ⟨g, o, none⟩ ∧ IsG W g (o + i * 2) l[i] := by
    intro n
    induction n with
    | zero => exact fun _ => ⟨[], rfl, fun i h => absurd h (Nat.not_lt_zero _)⟩
    | succ n ih =>
      intro hn
      obtain ⟨l, h1, h2⟩ := ih (by omega)
      obtain ⟨x, hx⟩ := hone n (by omega)
      refine ⟨l ++ [x], by simp [h1], fun i hi => ?_⟩
      by_cases e : i < l.length
      · rw [List.getElem_append_left e]; exact h2 i e
      · have : i = n := by simp at hi; omega
        subst this
        rw [List.getElem_append_right (by omega)]
        simp [h1]
        exact hx
  obtain ⟨l, h1, h2⟩ := hsuf len (Nat.le_refl _)
  exact ⟨l, s, a, len, cap, rfl, ⟨hl, h1, h2⟩, s0, s1⟩
end Go.Proofs.YtlhnmcopioeboaaGreat

/- geom.Right: what it answers. -/
namespace Go.Proofs.YtlhnmcopioeboaaGreat
set_option maxRecDepth 100000
open Go.RowKit

/-- Is a group right? -/
def okG (p : Int × Int) : Bool := if p.1 = 0 then decide (1 ≤ p.2) && decide (p.2 ≤ 8) else if p.1 = 1 then decide (3 ≤ p.2) && decide (p.2 ≤ 8) else false
/-- Is a measure right? -/
def rightL (l : List (Int × Int)) (s : Int) : Bool := decide (0 < l.length) && decide (l.length ≤ 4) && decide (24 ≤ s) && decide (s ≤ 4096) && l.all okG

theorem pred_any (k d : Int) (w : World) (hk : -9223372036854775808 ≤ k ∧ k ≤ 9223372036854775807) (hd : -9223372036854775808 ≤ d ∧ d ≤ 9223372036854775807) (b : Bool) (hb : okG (k, d) = b) :
    Calls Tryz.prog 58 #[.agg #[.int .i64 k, .int .i64 d]] w fun e w' => e = .returned (.bool (!b)) ∧ Below w.heap.size w w' := by
  obtain ⟨k0, k1⟩ := hk
  obtain ⟨d0, d1⟩ := hd
  by_cases e0 : k = 0
  · subst e0
    by_cases h1 : d < 1
    · obtain rfl : false = b := by rw [← hb]; simp [okG]; omega
      go_enter Tryz.func58, Tryz.ntmps58
      go_wp2
      go_ret
      exact ⟨rfl, boxed _ _⟩
    · by_cases h8 : 8 < d
      · obtain rfl : false = b := by rw [← hb]; simp [okG]; omega
        go_enter Tryz.func58, Tryz.ntmps58
        go_wp2
        go_ret
        exact ⟨rfl, boxed _ _⟩
      · obtain rfl : true = b := by rw [← hb]; simp [okG]; omega
        go_enter Tryz.func58, Tryz.ntmps58
        go_wp2
        go_ret
        exact ⟨rfl, boxed _ _⟩
  · have e0' : (k == 0) = false := by simp [e0]
    by_cases e1 : k = 1
    · subst e1
      by_cases h1 : d < 3
      · obtain rfl : false = b := by rw [← hb]; simp [okG]; omega
        go_enter Tryz.func58, Tryz.ntmps58
        go_wp2
        go_ret
        exact ⟨rfl, boxed _ _⟩
      · by_cases h8 : 8 < d
        · obtain rfl : false = b := by rw [← hb]; simp [okG]; omega
          go_enter Tryz.func58, Tryz.ntmps58
          go_wp2
          go_ret
          exact ⟨rfl, boxed _ _⟩
        · obtain rfl : true = b := by rw [← hb]; simp [okG]; omega
          go_enter Tryz.func58, Tryz.ntmps58
          go_wp2
          go_ret
          exact ⟨rfl, boxed _ _⟩
    · have e1' : (k == 1) = false := by simp [e1]
      obtain rfl : false = b := by rw [← hb]; simp [okG, e0, e1]
      go_enter Tryz.func58, Tryz.ntmps58
      go_wp2
      go_ret
      exact ⟨rfl, boxed _ _⟩

/-- All groups that were looked at are right. -/
def okTo (l : List (Int × Int)) (k : Nat) : Prop := ∀ j (h : j < l.length), j < k → okG l[j] = true
theorem okTo_all {l : List (Int × Int)} (h : okTo l l.length) : l.all okG = true := by
  rw [List.all_eq_true]
  intro x hx
  obtain ⟨j, hj, rfl⟩ := List.getElem_of_mem hx
  exact h j hj hj
theorem okTo_not {l : List (Int × Int)} {k : Nat} (hk : k < l.length) (h : okG l[k] = false) : l.all okG = false := by
  cases e : l.all okG with
  | false => rfl
  | true =>
    rw [List.all_eq_true] at e
    rw [e _ (List.getElem_mem hk)] at h
    cases h
set_option maxHeartbeats 1000000 in
theorem index_any (l : List (Int × Int)) (a : Option Addr) (n c : Nat) (w : World) (h : Grps w a n l) :
    Calls Tryz.prog 73 #[.slice a n c, .func (.func 58) #[] #[]] w fun e w' =>
      ∃ k : Int, e = .returned (.int .i64 k) ∧ (l.all okG = true → k = -1) ∧ (l.all okG = false → 0 ≤ k ∧ k ≤ 9223372036854775807) ∧ Below w.heap.size w w' := by
  obtain ⟨hm, hn, hc⟩ := h
  unfold maxLen at hm
  have HC := Lib.hid hc
  have HN := Lib.hid hn
  clear hc hn
  go_enter Tryz.func73, Tryz.ntmps73
  go_wp2_with fail
  go_loopw [8] (fun i wr => ∃ k : Nat, k ≤ n ∧ i = .int .i64 k ∧ Hid (okTo l k) ∧ Below w.heap.size w wr) (fun i _ => n - (intOf i).toNat)
  case atStart => exact ⟨0, Nat.zero_le _, rfl, Lib.hid fun j _ hj => absurd hj (Nat.not_lt_zero _), Below.refl _ _⟩
  case round =>
    obtain ⟨k, hk, rfl, H, hb⟩ := hrel
    by_cases hlt : k < n
    · have hlt' : k < l.length := by rw [HN.out]; exact hlt
      obtain ⟨g, o, rfl, hg⟩ := HC.out k hlt'
      obtain ⟨_, c0, c1, p0, p1, q0, q1⟩ := hg.below hb
      generalize hx : l[k] = x at c0 c1 p0 p1 q0 q1
      have HX : Hid (∃ h : k < l.length, l[k] = x) := Lib.hid ⟨hlt', hx⟩
      clear hx hg hlt'
      obtain ⟨x1, x2⟩ := x
      dsimp only at c0 c1 p0 p1 q0 q1
      cases hz : okG (x1, x2) with
      | true =>
        have HZ := Lib.hid hz
        clear hz
        go_wp2_with fail
        refine (pred_any x1 x2 _ ⟨p0, p1⟩ ⟨q0, q1⟩ true HZ.out).mono ?_
        rintro e w1 ⟨rfl, b1⟩
        go_wp2
        go_roundw
        case rel =>
          refine ⟨k + 1, by omega, by go_num, Lib.hid fun j hj hjk => ?_, next hb b1⟩
          by_cases e : j = k
          · subst e
            obtain ⟨_, hs⟩ := HX.out
            rw [hs, HZ.out]
          · exact H.out j hj (by omega)
        case measure => simp [intOf]; omega
      | false =>
        have HZ := Lib.hid hz
        clear hz
        go_wp2_with fail
        refine (pred_any x1 x2 _ ⟨p0, p1⟩ ⟨q0, q1⟩ false HZ.out).mono ?_
        rintro e w1 ⟨rfl, b1⟩
        go_wp2
        go_ret
        have hno : l.all okG = false := by
          obtain ⟨hk', hs⟩ := HX.out
          exact okTo_not hk' (by rw [hs]; exact HZ.out)
        exact ⟨k, rfl, fun h => by (rw [hno] at h; cases h), fun _ => by omega, next hb b1⟩
    · go_wp2
      go_ret
      have hyes : l.all okG = true := okTo_all (by
        obtain rfl : k = n := by omega
        rw [HN.out]; exact H.out)
      exact ⟨-1, rfl, fun _ => rfl, fun h => by (rw [hyes] at h; cases h), hb⟩

theorem contains_any (l : List (Int × Int)) (a : Option Addr) (n c : Nat) (w : World) (h : Grps w a n l) (b : Bool) (hb : l.all okG = b) :
    Calls Tryz.prog 57 #[.slice a n c, .func (.func 58) #[] #[]] w fun e w' => e = .returned (.bool (!b)) ∧ Below w.heap.size w w' := by
  have hI := Lib.hid (index_any l a n c w h)
  clear h
  have HB := Lib.hid hb
  clear hb
  go_enter Tryz.func57, Tryz.ntmps57
  go_wp2_with fail
  refine hI.out.mono ?_
  rintro e w1 ⟨k, rfl, h1, h2, b1⟩
  rw [HB.out] at h1 h2
  cases b with
  | true =>
    obtain rfl := h1 rfl
    go_wp2
    go_ret
    exact ⟨rfl, b1⟩
  | false =>
    obtain ⟨hk, hk'⟩ := h2 rfl
    clear h1 h2
    go_wp2
    go_ret
    exact ⟨rfl, b1⟩

set_option maxHeartbeats 1000000 in
theorem right_any (l : List (Int × Int)) (s : Int) (v : Value) (w : World) (h : Meas w v l s) (b : Bool) (hb : rightL l s = b) :
    Calls Tryz.prog 29 #[v] w fun e w' => e = .returned (.bool b) ∧ Below w.heap.size w w' := by
  obtain ⟨a, n, c, rfl, hg, s0, s1⟩ := h
  have hm := hg.1
  have hn := hg.2.1
  unfold maxLen at hm
  have HG := Lib.hid hg
  clear hg
  by_cases h0 : n = 0
  · subst h0
    obtain rfl : false = b := by rw [← hb]; simp [rightL, hn]
    go_enter Tryz.func29, Tryz.ntmps29
    go_wp2
    go_ret
    exact ⟨rfl, boxed _ _⟩
  have h0' : ((n : Int) == 0) = false := by simp [h0]
  by_cases h4 : 4 < n
  · obtain rfl : false = b := by rw [← hb, rightL, hn]; simp; omega
    go_enter Tryz.func29, Tryz.ntmps29
    go_wp2
    go_ret
    exact ⟨rfl, boxed _ _⟩
  by_cases h24 : s < 24
  · obtain rfl : false = b := by rw [← hb, rightL, hn]; simp; omega
    go_enter Tryz.func29, Tryz.ntmps29
    go_wp2
    go_ret
    exact ⟨rfl, boxed _ _⟩
  by_cases h40 : 4096 < s
  · obtain rfl : false = b := by rw [← hb, rightL, hn]; simp; omega
    go_enter Tryz.func29, Tryz.ntmps29
    go_wp2
    go_ret
    exact ⟨rfl, boxed _ _⟩
  have hall : Hid (l.all okG = b) := Lib.hid (by
    rw [← hb, rightL, hn]
    simp [show 0 < n by omega, show n ≤ 4 by omega, show 24 ≤ s by omega, show s ≤ 4096 by omega])
  clear hb hn
  go_enter Tryz.func29, Tryz.ntmps29
  go_wp2_with fail
  refine (contains_any l a n c _ (HG.out.below (boxed _ _)) b hall.out).mono ?_
  rintro e w1 ⟨rfl, b1⟩
  go_wp2
  go_ret
  exact ⟨by simp, next (boxed _ _) b1⟩
end Go.Proofs.YtlhnmcopioeboaaGreat

/- The numbers of a measure: devices ahead of a group, what a group gives out, what a block takes. -/
namespace Go.Proofs.YtlhnmcopioeboaaGreat
set_option maxRecDepth 100000
open Go.RowKit

/-- The devices of the first k groups. -/
def aheadL : List (Int × Int) → Nat → Int
  | _, 0 => 0
  | [], _ + 1 => 0
  | x :: r, k + 1 => x.2 + aheadL r k
theorem aheadL_zero (l : List (Int × Int)) : aheadL l 0 = 0 := by cases l <;> rfl
theorem aheadL_succ (l : List (Int × Int)) (k : Nat) (h : k < l.length) : aheadL l (k + 1) = aheadL l k + l[k].2 := by
  induction l generalizing k with
  | nil => exact absurd h (Nat.not_lt_zero _)
  | cons x r ih =>
    cases k with
    | zero => simp [aheadL, aheadL_zero]
    | succ k =>
      have := ih k (by simpa using h)
      rw [aheadL, this, aheadL]
      simp
      omega
/-- A right measure, in parts. -/
structure RightM (l : List (Int × Int)) (s : Int) : Prop where
  pos : 0 < l.length
  few : l.length ≤ 4
  s0 : 24 ≤ s
  s1 : s ≤ 4096
  all : ∀ i (h : i < l.length), okG l[i] = true
theorem rightM_iff {l : List (Int × Int)} {s : Int} : rightL l s = true ↔ RightM l s := by
  unfold rightL
  simp only [Bool.and_eq_true, decide_eq_true_eq, List.all_eq_true]
  constructor
  · rintro ⟨⟨⟨⟨h1, h2⟩, h3⟩, h4⟩, h5⟩
    exact ⟨h1, h2, h3, h4, fun i h => h5 _ (List.getElem_mem h)⟩
  · rintro ⟨h1, h2, h3, h4, h5⟩
    refine ⟨⟨⟨⟨h1, h2⟩, h3⟩, h4⟩, fun x hx => ?_⟩
    obtain ⟨j, hj, rfl⟩ := List.getElem_of_mem hx
    exact h5 j hj
theorem okG_cases {k d : Int} (h : okG (k, d) = true) : (k = 0 ∧ 1 ≤ d ∧ d ≤ 8) ∨ (k = 1 ∧ 3 ≤ d ∧ d ≤ 8) := by
  unfold okG at h
  dsimp only at h
  split at h
  · simp at h; exact .inl ⟨by assumption, h.1, h.2⟩
  · split at h
    · simp at h; exact .inr ⟨by assumption, h.1, h.2⟩
    · cases h
theorem okG_wide {x : Int × Int} (h : okG x = true) : 1 ≤ x.2 ∧ x.2 ≤ 8 := by
  obtain ⟨k, d⟩ := x
  rcases okG_cases h with ⟨_, h1, h2⟩ | ⟨_, h1, h2⟩
  · exact ⟨h1, h2⟩
  · exact ⟨by show 1 ≤ d; omega, h2⟩
theorem RightM.bounds {l : List (Int × Int)} {s : Int} (h : RightM l s) (k : Nat) (hk : k ≤ l.length) : (k : Int) ≤ aheadL l k ∧ aheadL l k ≤ 8 * k := by
  induction k with
  | zero => rw [aheadL_zero]; omega
  | succ k ih =>
    have := ih (by omega)
    have hw := okG_wide (h.all k (by omega))
    rw [aheadL_succ l k (by omega)]
    omega
theorem RightM.mono {l : List (Int × Int)} {s : Int} (h : RightM l s) {i k : Nat} (hik : i ≤ k) (hk : k ≤ l.length) : aheadL l i ≤ aheadL l k := by
  induction k with
  | zero => obtain rfl : i = 0 := by omega
            exact Int.le_refl _
  | succ k ih =>
    by_cases e : i = k + 1
    · subst e; exact Int.le_refl _
    · have := ih (by omega) (by omega)
      have hw := okG_wide (h.all k (by omega))
      rw [aheadL_succ l k (by omega)]
      omega

def hasL (l : List (Int × Int)) (s i : Int) : Bool := rightL l s && decide (0 ≤ i) && decide (i < l.length)
theorem hasL_iff {l : List (Int × Int)} {s i : Int} : hasL l s i = true ↔ RightM l s ∧ ∃ k : Nat, i = k ∧ k < l.length := by
  unfold hasL
  simp only [Bool.and_eq_true, decide_eq_true_eq, rightM_iff]
  constructor
  · rintro ⟨⟨h1, h2⟩, h3⟩
    exact ⟨h1, i.toNat, by omega, by omega⟩
  · rintro ⟨h1, k, rfl, h2⟩
    exact ⟨⟨h1, by omega⟩, by omega⟩
def devsL (l : List (Int × Int)) (s : Int) : Int := if rightL l s then aheadL l l.length else 0
def firstL (l : List (Int × Int)) (s i : Int) : Int := if hasL l s i then aheadL l i.toNat else 0
def gives (x : Int × Int) (s : Int) : Int := if x.1 = 1 then (s - 16) * x.2 else s - 16
def takesG (x : Int × Int) (z : Int) : Int := if x.1 = 0 then z else if z = 1 then 2 else if z = 2 then 4 else if z = 3 then (if x.2 = 3 then 6 else 4) else 6

/-- A group of a measure, in memory. -/
theorem Grps.at_ {w : World} {a : Option Addr} {n : Nat} {l : List (Int × Int)} (h : Grps w a n l) (i : Nat) (hi : i < n) :
    ∃ g o k d, a = some ⟨g, o, none⟩ ∧ (∃ h : i < l.length, l[i] = (k, d)) ∧ IsG w g (o + i * 2) (k, d) := by
  obtain ⟨_, h2, h3⟩ := h
  have hi' : i < l.length := by omega
  obtain ⟨g, o, ha, hx⟩ := h3 i hi'
  exact ⟨g, o, l[i].1, l[i].2, ha, ⟨hi', rfl⟩, hx⟩

set_option maxHeartbeats 1000000 in
theorem ahead_any (l : List (Int × Int)) (s : Int) (v : Value) (w : World) (h : Meas w v l s) (hr : RightM l s) (m : Nat) (hml : m ≤ l.length) (x : Int) (hx : aheadL l m = x) :
    Calls Tryz.prog 59 #[v, .int .i64 (m : Int)] w fun e w' => e = .returned (.int .i64 x) ∧ Below w.heap.size w w' := by
  obtain ⟨a, n, c, rfl, hg, s0, s1⟩ := h
  have HG := Lib.hid (hg.below (boxed w (.cells #[.slice a n c, .int .i64 s] 24)))
  have hmn : m ≤ n := by rw [← hg.2.1]; exact hml
  have hn4 : n ≤ 4 := by rw [← hg.2.1]; exact hr.few
  have HR := Lib.hid hr
  have HX := Lib.hid hx
  have HM := Lib.hid hml
  clear hg hr hx hml
  go_enter Tryz.func59, Tryz.ntmps59
  go_wp2_with fail
  go_loop [5, 8] (fun t i => ∃ (k : Nat) (y : Int), k ≤ m ∧ i = .int .i64 k ∧ t = .int .i64 y ∧ y = aheadL l k) (fun _ i => m - (intOf i).toNat)
  case atStart => exact ⟨0, 0, Nat.zero_le _, rfl, rfl, (aheadL_zero l).symm⟩
  case round =>
    obtain ⟨k, y, hk, rfl, rfl, hy⟩ := hrel
    by_cases hlt : k < m
    · obtain ⟨g, o, kk, d, rfl, hld, hG⟩ := HG.out.at_ k (by omega)
      obtain ⟨_, c0, c1, p0, p1, q0, q1⟩ := hG
      have hb := HR.out.bounds k (by have := HM.out; omega)
      have hb' := HR.out.bounds (k + 1) (by have := HM.out; omega)
      have hs : aheadL l (k + 1) = y + d := by
        obtain ⟨hk', e⟩ := hld
        rw [aheadL_succ l k hk', e, hy]
      have HS := Lib.hid hs
      have hy0 : 0 ≤ y ∧ y ≤ 40 := by omega
      have hd0 : 0 ≤ y + d ∧ y + d ≤ 40 := by omega
      clear hb hb' hs hy hld
      obtain ⟨y0, y1⟩ := hy0
      obtain ⟨z0, z1⟩ := hd0
      go_wp2
      go_round
      case rel => exact ⟨k + 1, y + d, by omega, by go_num, by go_num, HS.out.symm⟩
      case measure => simp [intOf]; omega
    · obtain rfl : k = m := by omega
      have HY := Lib.hid hy
      clear hy
      go_wp2
      go_ret
      exact ⟨by rw [← HX.out, ← HY.out]; rfl, boxed _ _⟩

set_option maxHeartbeats 1000000 in
theorem has_any (l : List (Int × Int)) (s : Int) (v : Value) (w : World) (h : Meas w v l s) (i : Int) (hi : -9223372036854775808 ≤ i ∧ i ≤ 9223372036854775807) (b : Bool) (hb : hasL l s i = b) :
    Calls Tryz.prog 61 #[v, .int .i64 i] w fun e w' => e = .returned (.bool b) ∧ Below w.heap.size w w' := by
  have HH := Lib.hid (h.below (boxed w (.cells (match v with | .agg x => x | _ => #[]) 24)))
  obtain ⟨a, n, c, rfl, hg, s0, s1⟩ := h
  dsimp only at HH
  obtain ⟨i0, i1⟩ := hi
  have hn := hg.2.1
  have hm := hg.1
  unfold maxLen at hm
  unfold hasL at hb
  rw [hn] at hb
  clear hg hn
  cases hr : rightL l s with
  | false =>
    rw [hr] at hb
    obtain rfl : false = b := by simpa using hb
    have HR := Lib.hid hr
    clear hr hb
    go_enter Tryz.func61, Tryz.ntmps61
    go_wp2_with fail
    refine (right_any l s _ _ HH.out false HR.out).mono ?_
    rintro e w1 ⟨rfl, b1⟩
    go_wp2
    go_ret
    exact ⟨rfl, next (boxed _ _) b1⟩
  | true =>
    rw [hr] at hb
    have HR := Lib.hid hr
    clear hr
    by_cases h0 : 0 ≤ i
    · by_cases h1 : i < n
      · obtain rfl : true = b := by rw [← hb]; simp [h0, h1]
        clear hb
        go_enter Tryz.func61, Tryz.ntmps61
        go_wp2_with fail
        refine (right_any l s _ _ HH.out true HR.out).mono ?_
        rintro e w1 ⟨rfl, b1⟩
        have hc0 := b1.cell (p := ⟨w.heap.size, 0, none⟩) (by simp)
        simp at hc0
        go_wp2
        go_ret
        exact ⟨rfl, next (boxed _ _) b1⟩
      · obtain rfl : false = b := by rw [← hb]; simp [h0, h1]
        clear hb
        go_enter Tryz.func61, Tryz.ntmps61
        go_wp2_with fail
        refine (right_any l s _ _ HH.out true HR.out).mono ?_
        rintro e w1 ⟨rfl, b1⟩
        have hc0 := b1.cell (p := ⟨w.heap.size, 0, none⟩) (by simp)
        simp at hc0
        go_wp2
        go_ret
        exact ⟨by simp [h1], next (boxed _ _) b1⟩
    · obtain rfl : false = b := by rw [← hb]; simp [h0]
      clear hb
      go_enter Tryz.func61, Tryz.ntmps61
      go_wp2_with fail
      refine (right_any l s _ _ HH.out true HR.out).mono ?_
      rintro e w1 ⟨rfl, b1⟩
      go_wp2
      go_ret
      exact ⟨rfl, next (boxed _ _) b1⟩
end Go.Proofs.YtlhnmcopioeboaaGreat

/- geom.Devs, First, Of, Sectors, Takes: what they answer. -/
namespace Go.Proofs.YtlhnmcopioeboaaGreat
set_option maxRecDepth 100000
open Go.RowKit

theorem devs_any (l : List (Int × Int)) (s : Int) (v : Value) (w : World) (h : Meas w v l s) (x : Int) (hx : devsL l s = x) :
    Calls Tryz.prog 30 #[v] w fun e w' => e = .returned (.int .i64 x) ∧ Below w.heap.size w w' := by
  have HH := Lib.hid (h.below (boxed w (.cells (match v with | .agg x => x | _ => #[]) 24)))
  obtain ⟨a, n, c, rfl, hg, s0, s1⟩ := h
  dsimp only at HH
  have hn := hg.2.1
  unfold devsL at hx
  clear hg
  cases hr : rightL l s with
  | false =>
    rw [hr] at hx
    obtain rfl : 0 = x := by simpa using hx
    have HR := Lib.hid hr
    clear hr hx
    go_enter Tryz.func30, Tryz.ntmps30
    go_wp2_with fail
    refine (right_any l s _ _ HH.out false HR.out).mono ?_
    rintro e w1 ⟨rfl, b1⟩
    go_wp2
    go_ret
    exact ⟨rfl, next (boxed _ _) b1⟩
  | true =>
    have HX : Hid (aheadL l n = x) := Lib.hid (by rw [hr, if_pos rfl, hn] at hx; exact hx)
    have HR := Lib.hid hr
    have HN := Lib.hid hn
    clear hr hx hn
    go_enter Tryz.func30, Tryz.ntmps30
    go_wp2_with fail
    refine (right_any l s _ _ HH.out true HR.out).mono ?_
    rintro e w1 ⟨rfl, b1⟩
    have hc0 := b1.cell (p := ⟨w.heap.size, 0, none⟩) (by simp)
    have hc1 := b1.cell (p := ⟨w.heap.size, 1, none⟩) (by simp)
    simp at hc0 hc1
    have HM := Lib.hid (HH.out.below b1)
    have B1 := Lib.hid (next (boxed _ _) b1)
    clear b1 HH
    go_wp2_with fail
    refine (ahead_any l s _ _ HM.out (rightM_iff.1 HR.out) n (by rw [HN.out]; exact Nat.le_refl _) x HX.out).mono ?_
    rintro e w2 ⟨rfl, b2⟩
    go_wp2
    go_ret
    exact ⟨rfl, next B1.out b2⟩

theorem first_any (l : List (Int × Int)) (s : Int) (v : Value) (w : World) (h : Meas w v l s) (i : Int) (hi : -9223372036854775808 ≤ i ∧ i ≤ 9223372036854775807) (x : Int) (hx : firstL l s i = x) :
    Calls Tryz.prog 62 #[v, .int .i64 i] w fun e w' => e = .returned (.int .i64 x) ∧ Below w.heap.size w w' := by
  have HH := Lib.hid (h.below (boxed w (.cells (match v with | .agg x => x | _ => #[]) 24)))
  obtain ⟨a, n, c, rfl, hg, s0, s1⟩ := h
  dsimp only at HH
  have HI := Lib.hid hi
  unfold firstL at hx
  clear hg hi
  cases hr : hasL l s i with
  | false =>
    rw [hr] at hx
    obtain rfl : 0 = x := by simpa using hx
    have HR := Lib.hid hr
    clear hr hx
    go_enter Tryz.func62, Tryz.ntmps62
    go_wp2_with fail
    refine (has_any l s _ _ HH.out i HI.out false HR.out).mono ?_
    rintro e w1 ⟨rfl, b1⟩
    go_wp2
    go_ret
    exact ⟨rfl, next (boxed _ _) b1⟩
  | true =>
    obtain ⟨hrm, k, rfl, hk⟩ := hasL_iff.1 hr
    have HX : Hid (aheadL l k = x) := Lib.hid (by rw [hr, if_pos rfl] at hx; exact hx)
    have HR := Lib.hid hr
    have HRM := Lib.hid hrm
    have HK := Lib.hid hk
    clear hr hx hk hrm
    go_enter Tryz.func62, Tryz.ntmps62
    go_wp2_with fail
    refine (has_any l s _ _ HH.out (k : Int) HI.out true HR.out).mono ?_
    rintro e w1 ⟨rfl, b1⟩
    have hc0 := b1.cell (p := ⟨w.heap.size, 0, none⟩) (by simp)
    have hc1 := b1.cell (p := ⟨w.heap.size, 1, none⟩) (by simp)
    simp at hc0 hc1
    have HM := Lib.hid (HH.out.below b1)
    have B1 := Lib.hid (next (boxed _ _) b1)
    clear b1 HH
    go_wp2_with fail
    refine (ahead_any l s _ _ HM.out HRM.out k (Nat.le_of_lt HK.out) x HX.out).mono ?_
    rintro e w2 ⟨rfl, b2⟩
    go_wp2
    go_ret
    exact ⟨rfl, next B1.out b2⟩

/-- A device's group and place. -/
def OwnOf (l : List (Int × Int)) (d : Int) (k : Nat) (j : Int) : Prop := ∃ h : k < l.length, 0 ≤ j ∧ j < l[k].2 ∧ aheadL l k + j = d

set_option maxHeartbeats 1000000 in
theorem sectors_none (l : List (Int × Int)) (s : Int) (v : Value) (w : World) (h : Meas w v l s) (i : Int) (hi : -9223372036854775808 ≤ i ∧ i ≤ 9223372036854775807) (hno : hasL l s i = false) :
    Calls Tryz.prog 36 #[v, .int .i64 i] w fun e w' => e = .returned (.int .i64 0) ∧ Below w.heap.size w w' := by
  have HH := Lib.hid (h.below (boxed w (.cells (match v with | .agg x => x | _ => #[]) 24)))
  obtain ⟨a, n, c, rfl, hg, s0, s1⟩ := h
  dsimp only at HH
  have HI := Lib.hid hi
  have HR := Lib.hid hno
  clear hg hi hno
  go_enter Tryz.func36, Tryz.ntmps36
  go_wp2_with fail
  refine (has_any l s _ _ HH.out i HI.out false HR.out).mono ?_
  rintro e w1 ⟨rfl, b1⟩
  go_wp2
  go_ret
  exact ⟨rfl, next (boxed _ _) b1⟩
set_option maxHeartbeats 1000000 in
theorem sectors_some (l : List (Int × Int)) (s : Int) (v : Value) (w : World) (h : Meas w v l s) (hr : RightM l s) (k : Nat) (hk : k < l.length) (x : Int) (hx : gives l[k] s = x) :
    Calls Tryz.prog 36 #[v, .int .i64 (k : Int)] w fun e w' => e = .returned (.int .i64 x) ∧ Below w.heap.size w w' := by
  have HH := Lib.hid (h.below (boxed w (.cells (match v with | .agg x => x | _ => #[]) 24)))
  obtain ⟨a, n, c, rfl, hg, s0, s1⟩ := h
  dsimp only at HH
  have HG := Lib.hid (hg.below (boxed w (.cells #[.slice a n c, .int .i64 s] 24)))
  have hn := hg.2.1
  have hn4 : n ≤ 4 := by rw [← hn]; exact hr.few
  have hkn : k < n := by rw [← hn]; exact hk
  have hi : -9223372036854775808 ≤ (k : Int) ∧ (k : Int) ≤ 9223372036854775807 := by omega
  have HI := Lib.hid hi
  have HHas : Hid (hasL l s (k : Int) = true) := Lib.hid (hasL_iff.2 ⟨hr, k, rfl, hk⟩)
  obtain ⟨kk, u, hG, hgk, hok⟩ : ∃ kk u, (∃ h : k < l.length, l[k] = (kk, u)) ∧ gives (kk, u) s = x ∧ okG (kk, u) = true := ⟨l[k].1, l[k].2, ⟨hk, rfl⟩, hx, hr.all k hk⟩
  have t0 := hr.s0
  have t1 := hr.s1
  have HL := Lib.hid hG
  clear hG hx hg hn hr hk hi
  go_enter Tryz.func36, Tryz.ntmps36
  go_wp2_with fail
  refine (has_any l s _ _ HH.out (k : Int) HI.out true HHas.out).mono ?_
  rintro e w1 ⟨rfl, b1⟩
  have hc0 := b1.cell (p := ⟨w.heap.size, 0, none⟩) (by simp)
  have hc1 := b1.cell (p := ⟨w.heap.size, 1, none⟩) (by simp)
  simp at hc0 hc1
  obtain ⟨g, o, k2, u2, rfl, hld, hGm⟩ := (HG.out.below b1).at_ k hkn
  obtain ⟨rfl, rfl⟩ : k2 = kk ∧ u2 = u := by
    obtain ⟨_, e1⟩ := HL.out
    obtain ⟨_, e2⟩ := hld
    rw [e1] at e2
    cases e2
    exact ⟨rfl, rfl⟩
  obtain ⟨hlt, c0, c1, p0, p1, q0, q1⟩ := hGm
  dsimp only at c0 c1 p0 p1 q0 q1
  have B1 := Lib.hid (next (boxed _ _) b1)
  clear b1 HH HG hld HL
  rcases okG_cases hok with ⟨rfl, u1, u8⟩ | ⟨rfl, u1, u8⟩
  · have HX : Hid (s - 16 = x) := Lib.hid (by rw [← hgk]; rfl)
    clear hgk hok
    go_wp2
    go_ret
    exact ⟨by rw [← HX.out]; rfl, next B1.out (boxed _ _)⟩
  · have HX : Hid ((s - 16) * u2 = x) := Lib.hid (by rw [← hgk]; rfl)
    clear hgk hok
    have hm0 : 0 ≤ (s - 16) * u2 := Int.mul_nonneg (by omega) (by omega)
    have hm1 : (s - 16) * u2 ≤ 32640 := by
      have : (s - 16) * u2 ≤ 4080 * 8 := Int.mul_le_mul (by omega) u8 (by omega) (by omega)
      omega
    go_wp2
    go_ret
    exact ⟨by rw [← HX.out]; rfl, next B1.out (boxed _ _)⟩
end Go.Proofs.YtlhnmcopioeboaaGreat

/- geom.Takes, and polderlaw05.awake: what they answer. -/
namespace Go.Proofs.YtlhnmcopioeboaaGreat
set_option maxRecDepth 100000
open Go.RowKit

def takesL (l : List (Int × Int)) (s i z : Int) : Int := if hasL l s i && decide (1 ≤ z) && decide (z ≤ 4) then takesG (l.getD i.toNat (0, 0)) z else 0

set_option maxHeartbeats 1000000 in
theorem takes_none (l : List (Int × Int)) (s : Int) (v : Value) (w : World) (h : Meas w v l s) (i z : Int) (hi : -9223372036854775808 ≤ i ∧ i ≤ 9223372036854775807) (hz : -9223372036854775808 ≤ z ∧ z ≤ 9223372036854775807)
    (hno : hasL l s i = false ∨ z < 1 ∨ 4 < z) :
    Calls Tryz.prog 35 #[v, .int .i64 i, .int .i64 z] w fun e w' => e = .returned (.int .i64 0) ∧ Below w.heap.size w w' := by
  have HH := Lib.hid (h.below (boxed w (.cells (match v with | .agg x => x | _ => #[]) 24)))
  obtain ⟨a, n, c, rfl, hg, s0, s1⟩ := h
  dsimp only at HH
  obtain ⟨z0, z1⟩ := hz
  have HI := Lib.hid hi
  clear hg hi
  cases hr : hasL l s i with
  | false =>
    have HR := Lib.hid hr
    clear hr hno
    go_enter Tryz.func35, Tryz.ntmps35
    go_wp2_with fail
    refine (has_any l s _ _ HH.out i HI.out false HR.out).mono ?_
    rintro e w1 ⟨rfl, b1⟩
    go_wp2
    go_ret
    exact ⟨rfl, next (boxed _ _) b1⟩
  | true =>
    have HR := Lib.hid hr
    rw [hr] at hno
    have hno' : z < 1 ∨ 4 < z := by simpa using hno
    clear hr hno
    by_cases h1 : z < 1
    · clear hno'
      go_enter Tryz.func35, Tryz.ntmps35
      go_wp2_with fail
      refine (has_any l s _ _ HH.out i HI.out true HR.out).mono ?_
      rintro e w1 ⟨rfl, b1⟩
      go_wp2
      go_ret
      exact ⟨rfl, next (boxed _ _) b1⟩
    · have h4 : 4 < z := by omega
      clear hno'
      go_enter Tryz.func35, Tryz.ntmps35
      go_wp2_with fail
      refine (has_any l s _ _ HH.out i HI.out true HR.out).mono ?_
      rintro e w1 ⟨rfl, b1⟩
      go_wp2
      go_ret
      exact ⟨rfl, next (boxed _ _) b1⟩
set_option maxHeartbeats 2000000 in
theorem takes_some (l : List (Int × Int)) (s : Int) (v : Value) (w : World) (h : Meas w v l s) (hr : RightM l s) (k : Nat) (hk : k < l.length) (z : Int) (z1 : 1 ≤ z) (z4 : z ≤ 4) (x : Int) (hx : takesG l[k] z = x) :
    Calls Tryz.prog 35 #[v, .int .i64 (k : Int), .int .i64 z] w fun e w' => e = .returned (.int .i64 x) ∧ Below w.heap.size w w' := by
  have HH := Lib.hid (h.below (boxed w (.cells (match v with | .agg x => x | _ => #[]) 24)))
  obtain ⟨a, n, c, rfl, hg, s0, s1⟩ := h
  dsimp only at HH
  have HG := Lib.hid (hg.below (boxed w (.cells #[.slice a n c, .int .i64 s] 24)))
  have hn := hg.2.1
  have hn4 : n ≤ 4 := by rw [← hn]; exact hr.few
  have hkn : k < n := by rw [← hn]; exact hk
  have hi : -9223372036854775808 ≤ (k : Int) ∧ (k : Int) ≤ 9223372036854775807 := by omega
  have HI := Lib.hid hi
  have HHas : Hid (hasL l s (k : Int) = true) := Lib.hid (hasL_iff.2 ⟨hr, k, rfl, hk⟩)
  obtain ⟨kk, u, hG, hgk, hok⟩ : ∃ kk u, (∃ h : k < l.length, l[k] = (kk, u)) ∧ takesG (kk, u) z = x ∧ okG (kk, u) = true := ⟨l[k].1, l[k].2, ⟨hk, rfl⟩, hx, hr.all k hk⟩
  have HL := Lib.hid hG
  clear hG hx hg hn hr hk hi
  go_enter Tryz.func35, Tryz.ntmps35
  go_wp2_with fail
  refine (has_any l s _ _ HH.out (k : Int) HI.out true HHas.out).mono ?_
  rintro e w1 ⟨rfl, b1⟩
  have hc0 := b1.cell (p := ⟨w.heap.size, 0, none⟩) (by simp)
  have hc1 := b1.cell (p := ⟨w.heap.size, 1, none⟩) (by simp)
  simp at hc0 hc1
  obtain ⟨g, o, k2, u2, rfl, hld, hGm⟩ := (HG.out.below b1).at_ k hkn
  obtain ⟨rfl, rfl⟩ : k2 = kk ∧ u2 = u := by
    obtain ⟨_, e1⟩ := HL.out
    obtain ⟨_, e2⟩ := hld
    rw [e1] at e2
    cases e2
    exact ⟨rfl, rfl⟩
  obtain ⟨hlt, c0, c1, p0, p1, q0, q1⟩ := hGm
  dsimp only at c0 c1 p0 p1 q0 q1
  have B1 := Lib.hid (next (boxed _ _) b1)
  clear b1 HH HG hld HL
  rcases okG_cases hok with ⟨rfl, u1, u8⟩ | ⟨rfl, u1, u8⟩
  · have HX : Hid (z = x) := Lib.hid (by rw [← hgk]; rfl)
    clear hgk hok
    go_wp2
    go_ret
    exact ⟨by rw [← HX.out]; rfl, next B1.out (boxed _ _)⟩
  · have hzz : z = 1 ∨ z = 2 ∨ z = 3 ∨ z = 4 := by omega
    have huu : u2 = 3 ∨ u2 = 4 ∨ u2 = 5 ∨ u2 = 6 ∨ u2 = 7 ∨ u2 = 8 := by omega
    have HX := Lib.hid hgk
    clear hgk hok z1 z4 u1 u8 p0 p1 q0 q1
    rcases hzz with rfl | rfl | rfl | rfl <;> rcases huu with rfl | rfl | rfl | rfl | rfl | rfl <;>
      (go_wp2; go_ret; exact ⟨by rw [← HX.out]; rfl, next B1.out (boxed _ _)⟩)
end Go.Proofs.YtlhnmcopioeboaaGreat

/- A measure in a box: what stays while worlds grow. -/
namespace Go.Proofs.YtlhnmcopioeboaaGreat
set_option maxRecDepth 100000
open Go.RowKit

/-- A measure boxed in block b, in a world that grew from w0. -/
structure Held (w0 w : World) (b : Nat) (a : Option Addr) (n c : Nat) (s : Int) (l : List (Int × Int)) : Prop where
  c0 : w.cell? ⟨b, 0, none⟩ = some (.slice a n c)
  c1 : w.cell? ⟨b, 1, none⟩ = some (.int .i64 s)
  lt : b < w.heap.size
  m : Meas w (.agg #[.slice a n c, .int .i64 s]) l s
  below : Below w0.heap.size w0 w
theorem Held.next {w0 w w' : World} {b : Nat} {a : Option Addr} {n c : Nat} {s : Int} {l : List (Int × Int)} (h : Held w0 w b a n c s l) (k : Below w.heap.size w w') : Held w0 w' b a n c s l :=
  ⟨by rw [k.cell (p := ⟨b, 0, none⟩) h.lt]; exact h.c0, by rw [k.cell (p := ⟨b, 1, none⟩) h.lt]; exact h.c1, Nat.lt_of_lt_of_le h.lt k.size, h.m.below k, Proofs.YtlhnmcopioeboaaGreat.next h.below k⟩
theorem Held.start {w : World} {a : Option Addr} {n c : Nat} {s : Int} {l : List (Int × Int)} (h : Meas w (.agg #[.slice a n c, .int .i64 s]) l s) :
    Held w (w.alloc (.cells #[.slice a n c, .int .i64 s] 24)) w.heap.size a n c s l :=
  ⟨by simp, by simp, by simp, h.below (boxed _ _), boxed _ _⟩
theorem Held.len {w0 w : World} {b : Nat} {a : Option Addr} {n c : Nat} {s : Int} {l : List (Int × Int)} (h : Held w0 w b a n c s l) : l.length = n ∧ n ≤ 9223372036854775807 := by
  obtain ⟨a', n', c', hv, hg, _⟩ := h.m
  cases hv
  exact ⟨hg.2.1, by have := hg.1; unfold maxLen at this; omega⟩
/-- One of its groups. -/
theorem Held.at_ {w0 w : World} {b : Nat} {a : Option Addr} {n c : Nat} {s : Int} {l : List (Int × Int)} (h : Held w0 w b a n c s l) {k : Nat} (hk : k < l.length) {x : Int × Int} (hx : l[k] = x) :
    ∃ g o, a = some ⟨g, o, none⟩ ∧ g < w.heap.size ∧ w.cell? ⟨g, o + k * 2, none⟩ = some (.int .i64 x.1) ∧ w.cell? ⟨g, o + k * 2 + 1, none⟩ = some (.int .i64 x.2) := by
  obtain ⟨a', n', c', hv, hg, _⟩ := h.m
  cases hv
  obtain ⟨g, o, ha, hG⟩ := hg.2.2 k hk
  subst hx
  exact ⟨g, o, ha, hG.lt, hG.c0, hG.c1⟩
end Go.Proofs.YtlhnmcopioeboaaGreat

/- Columns: a list of them, in memory; a measure and a place in boxes. -/
namespace Go.Proofs.YtlhnmcopioeboaaGreat
set_option maxRecDepth 100000
open Go.RowKit

/-- A column. -/
structure C where
  dev : Int
  at_ : Int
  par : Bool
  row : Int
theorem C.ext' {a b : C} (h1 : a.dev = b.dev) (h2 : a.at_ = b.at_) (h3 : a.par = b.par) (h4 : a.row = b.row) : a = b := by
  cases a; cases b; simp at h1 h2 h3 h4; subst h1 h2 h3 h4; rfl
def C.cells (c : C) : List Value := [.int .i64 c.dev, .int .i64 c.at_, .bool c.par, .int .i64 c.row]
def C.val (c : C) : Value := .agg #[.int .i64 c.dev, .int .i64 c.at_, .bool c.par, .int .i64 c.row]
def flatC (l : List C) : List Value := l.flatMap C.cells
theorem flatC_len (l : List C) : (flatC l).length = l.length * 4 := by
  induction l with
  | nil => rfl
  | cons c r ih => simp only [flatC, List.flatMap_cons, List.length_append, List.length_cons] at ih ⊢; rw [ih]; simp [C.cells]; omega
theorem flatC_app (l m : List C) : flatC (l ++ m) = flatC l ++ flatC m := by simp [flatC]
theorem flatC_at (l : List C) (i : Nat) (hi : i < l.length) (j : Nat) (hj : j < 4) : (flatC l)[i * 4 + j]? = (C.cells l[i])[j]? := by
  induction l generalizing i with
  | nil => simp at hi
  | cons s r ih =>
    cases i with
    | zero =>
      simp only [flatC, List.flatMap_cons, List.getElem_cons_zero, Nat.zero_mul, Nat.zero_add]
      rw [List.getElem?_append_left (by simp [C.cells]; omega)]
    | succ i =>
      simp only [flatC, List.flatMap_cons, List.getElem_cons_succ]
      rw [List.getElem?_append_right (by simp [C.cells]; omega), show (C.cells s).length = 4 from rfl, show (i + 1) * 4 + j - 4 = i * 4 + j by omega]
      exact ih i (by simpa using hi)
theorem flatC_one (l : List C) : ∀ v ∈ flatC l, v.oneCell' = true := by
  intro v hv
  obtain ⟨s, _, h⟩ := List.mem_flatMap.1 hv
  simp [C.cells] at h
  rcases h with rfl | rfl | rfl | rfl <;> rfl

/-- A column's four cells. -/
structure IsC (w : World) (g o : Nat) (c : C) : Prop where
  c0 : w.cell? ⟨g, o, none⟩ = some (.int .i64 c.dev)
  c1 : w.cell? ⟨g, o + 1, none⟩ = some (.int .i64 c.at_)
  c2 : w.cell? ⟨g, o + 2, none⟩ = some (.bool c.par)
  c3 : w.cell? ⟨g, o + 3, none⟩ = some (.int .i64 c.row)
theorem IsC.of {w : World} {g o : Nat} {c : C} (h : ∀ j, j < 4 → w.cell? ⟨g, o + j, none⟩ = (C.cells c)[j]?) : IsC w g o c :=
  ⟨h 0 (by omega), h 1 (by omega), h 2 (by omega), h 3 (by omega)⟩
theorem IsC.get {w : World} {g o : Nat} {c : C} (h : IsC w g o c) (j : Nat) (hj : j < 4) : w.cell? ⟨g, o + j, none⟩ = (C.cells c)[j]? := by
  match j, hj with
  | 0, _ => exact h.c0
  | 1, _ => exact h.c1
  | 2, _ => exact h.c2
  | 3, _ => exact h.c3
theorem IsC.below {w w' : World} {B g o : Nat} {c : C} (h : IsC w g o c) (hg : g < B) (hb : Below B w w') : IsC w' g o c :=
  IsC.of fun j hj => by rw [hb.cell (p := ⟨g, o + j, none⟩) hg]; exact h.get j hj

/-- Columns in block g. -/
structure ColsAt (w : World) (g : Nat) (l : List C) : Prop where
  lt : g < w.heap.size
  at_ : ∀ j (h : j < l.length), IsC w g (j * 4) l[j]
theorem ColsAt.next {w w' : World} {g : Nat} {l : List C} (h : ColsAt w g l) (k : Below w.heap.size w w') : ColsAt w' g l :=
  ⟨Nat.lt_of_lt_of_le h.lt k.size, fun j hj => (h.at_ j hj).below h.lt k⟩

/-- The slice v is the call's own, from block B on, and it is the columns l. -/
def OwnC (B : Nat) (w : World) (v : Value) (l : List C) : Prop := w.ownsRow B 44 4 v l.length (flatC l)
theorem OwnC.nil (B : Nat) (w : World) : OwnC B w (.slice none 0 0) [] := World.ownsRow_nil _ _ _ _
theorem OwnC.below {w w' : World} {B : Nat} {v : Value} {l : List C} (h : OwnC B w v l) (hb : Below w.heap.size w w') : OwnC B w' v l := by
  refine ⟨h.1, ?_⟩
  rcases h.2 with hn | ⟨g, cap, cur, rfl, hB, hg, rest⟩
  · exact .inl hn
  · exact .inr ⟨g, cap, cur, rfl, hB, by rw [hb.block g (Array.getElem?_eq_some_iff.1 hg).1]; exact hg, rest⟩
theorem OwnC.lower {w : World} {B B' : Nat} {v : Value} {l : List C} (h : OwnC B w v l) (hB : B' ≤ B) : OwnC B' w v l := by
  refine ⟨h.1, ?_⟩
  rcases h.2 with hn | ⟨g, cap, cur, rfl, hB', hg, rest⟩
  · exact .inl hn
  · exact .inr ⟨g, cap, cur, rfl, Nat.le_trans hB hB', hg, rest⟩
/-- Where an own slice lies. -/
theorem OwnC.some {w : World} {B : Nat} {v : Value} {l : List C} (h : OwnC B w v l) (hl : 0 < l.length) :
    ∃ g c, v = .slice (some ⟨g, 0, none⟩) l.length c ∧ l.length ≤ c ∧ B ≤ g ∧ ColsAt w g l := by
  have hcells := fun g hg => World.ownsRow.cells (g := g) h hg
  rcases h.2 with ⟨_, h0⟩ | ⟨g, cap, cur, rfl, hB, hb, hnc, _⟩
  · omega
  · refine ⟨g, cap, rfl, hnc, hB, (Array.getElem?_eq_some_iff.1 hb).1, fun j hj => IsC.of fun i hi => ?_⟩
    have hx := flatC_at l j hj i hi
    have hlt : i < (C.cells l[j]).length := hi
    rw [List.getElem?_eq_getElem hlt] at hx ⊢
    have e := hcells g rfl (j * 4 + i) _ hx
    rwa [Go.WideShapes.add_plain, Nat.zero_add] at e
theorem OwnC.none {w : World} {B : Nat} {v : Value} {l : List C} (h : OwnC B w v l) : ∃ a c, v = .slice a l.length c := by
  rcases h.2 with ⟨rfl, h0⟩ | ⟨g, cap, cur, rfl, hB, hb, hnc, _⟩
  · exact ⟨_, _, by rw [h0]⟩
  · exact ⟨_, _, rfl⟩

theorem info_col : ∃ i, Tryz.prog.info? 44 = some i ∧ i.zero = some (.agg #[.int .i64 0, .int .i64 0, .bool false, .int .i64 0]) ∧ i.size = 4 ∧ i.bytes = 32 := info_parts (by kernel_rfl)

/-- append(v, c). -/
theorem wpList_append_col {ops : Array Oper} {rest : List Oper} {o : Oper} {a : Act} {Q : Exit → Act → World → Prop} (w : World) (hgd : o.guard = none) (s x : Operand)
    (ho : o.op = .call { callee := .builtin .append, args := #[s, x], argTypes := #[41, 41] }) (B : Nat) (v : Value) (l : List C) (c : C) (g c' : Nat) (hs : a.eval s = v) (hx : a.eval x = .slice (some ⟨g, 0, none⟩) 1 c')
    (hv : OwnC B w v l) (hc : IsC w g 0 c) (hB : B ≤ w.heap.size) (hN : l.length ≤ 100000)
    (h : ∀ v' w', OwnC B w' v' (l ++ [c]) → Below B w w' → w.heap.size ≤ w'.heap.size → wpList Tryz.prog ops Q rest (a.put o.dst v') w') : wpList Tryz.prog ops Q (o :: rest) a w := by
  obtain ⟨i, hi, hz, hsz, hb⟩ := info_col
  refine wpList_append_own_at w hgd s x _ ho B 44 i _ 4 32 Tryz.underlying41 hi hz hsz hb rfl (by decide) v l.length (flatC l) hs hv ⟨g, 0, none⟩ 1 c' (C.cells c) hx rfl (fun j u hj => ?_) (fun u hu => ?_) (by unfold maxLen; omega) (by omega) hB fun v' w' h1 h2 _ _ => ?_
  · have hlt : j < 4 := (List.getElem?_eq_some_iff.1 hj).1
    rw [Go.WideShapes.add_plain, ← hj]
    exact hc.get j hlt
  · exact flatC_one [c] u (by simpa [flatC] using hu)
  · refine h v' w' ?_ ((Below.refl B w).grown h2 hB fun k hk => (World.ownsRow.lt hv k hk).1) h2.size
    unfold OwnC
    rw [List.length_append, flatC_app]
    have e : flatC [c] = C.cells c := by simp [flatC]
    rw [e]
    exact h1

/-- A measure boxed in block b, and a place in block p, in a world that grew from w0. -/
structure HeldP (w0 w : World) (b p : Nat) (a : Option Addr) (n c : Nat) (s : Int) (l : List (Int × Int)) (k t : Int) : Prop where
  h : Held w0 w b a n c s l
  p0 : w.cell? ⟨p, 0, none⟩ = some (.int .i64 k)
  p1 : w.cell? ⟨p, 1, none⟩ = some (.int .i64 t)
  plt : p < w.heap.size
theorem HeldP.next {w0 w w' : World} {b p : Nat} {a : Option Addr} {n c : Nat} {s : Int} {l : List (Int × Int)} {k t : Int} (h : HeldP w0 w b p a n c s l k t) (kb : Below w.heap.size w w') : HeldP w0 w' b p a n c s l k t :=
  ⟨h.h.next kb, by rw [kb.cell (p := ⟨p, 0, none⟩) h.plt]; exact h.p0, by rw [kb.cell (p := ⟨p, 1, none⟩) h.plt]; exact h.p1, Nat.lt_of_lt_of_le h.plt kb.size⟩
theorem HeldP.start {w : World} {a : Option Addr} {n c : Nat} {s : Int} {l : List (Int × Int)} (k t : Int) (h : Meas w (.agg #[.slice a n c, .int .i64 s]) l s) :
    HeldP w ((w.alloc (.cells #[.slice a n c, .int .i64 s] 24)).alloc (.cells #[.int .i64 k, .int .i64 t] 26)) w.heap.size (w.heap.size + 1) a n c s l k t :=
  ⟨(Held.start h).next (boxed _ _), by simp, by simp, by simp⟩
end Go.Proofs.YtlhnmcopioeboaaGreat

/- A block's columns of a Mirror: cols.ofMirror. -/
namespace Go.Proofs.YtlhnmcopioeboaaGreat
set_option maxRecDepth 100000
open Go.RowKit

def mirRow (f t : Int) (d z : Nat) : List C := (List.range z).map fun i : Nat => ⟨f + d, 16 + t + i, false, i⟩
def mirL (f t : Int) (u z : Nat) : List C := (List.range u).flatMap fun d => mirRow f t d z
theorem mirRow_succ (f t : Int) (d z : Nat) : mirRow f t d (z + 1) = mirRow f t d z ++ [⟨f + d, 16 + t + z, false, z⟩] := by
  simp [mirRow, List.range_succ]
theorem mirL_succ (f t : Int) (u z : Nat) : mirL f t (u + 1) z = mirL f t u z ++ mirRow f t u z := by
  simp [mirL, List.range_succ]
theorem mirRow_len (f t : Int) (d z : Nat) : (mirRow f t d z).length = z := by simp [mirRow]
theorem mirL_len (f t : Int) (u z : Nat) : (mirL f t u z).length = u * z := by
  induction u with
  | zero => simp [mirL]
  | succ u ih => rw [mirL_succ, List.length_append, ih, mirRow_len, Nat.add_mul, Nat.one_mul]

set_option maxHeartbeats 2000000 in
theorem mirror_any (l : List (Int × Int)) (s : Int) (v : Value) (w : World) (h : Meas w v l s) (hr : RightM l s) (k : Nat) (hk : k < l.length) (u : Nat) (hu : l[k] = (0, (u : Int))) (t : Int) (t0 : 0 ≤ t) (t1 : t ≤ 4096) (z : Nat) (z4 : z ≤ 4) :
    Calls Tryz.prog 37 #[v, .agg #[.int .i64 (k : Int), .int .i64 t], .int .i64 (z : Int)] w fun e w' => ∃ v', e = .returned v' ∧ OwnC w.heap.size w' v' (mirL (aheadL l k) t u z) ∧ Below w.heap.size w w' := by
  obtain ⟨a, n, c, rfl, hg⟩ := id h
  have hn := hg.1.2.1
  have hn4 : n ≤ 4 := by rw [← hn]; exact hr.few
  have hkn : k < n := by rw [← hn]; exact hk
  obtain ⟨uu1, uu8⟩ : 1 ≤ (u : Int) ∧ (u : Int) ≤ 8 := by have := okG_wide (hr.all k hk); rw [hu] at this; exact this
  have u8' : u ≤ 8 := by omega
  obtain ⟨f, hf⟩ : ∃ f, aheadL l k = f := ⟨_, rfl⟩
  have hfb := hr.bounds k (Nat.le_of_lt hk)
  rw [hf] at hfb ⊢
  have f0 : 0 ≤ f := by omega
  have f1 : f ≤ 32 := by omega
  have K1 := Lib.hid (HeldP.start (k : Int) t h)
  have HR := Lib.hid hr
  have HL : Hid (∃ hk : k < l.length, l[k] = (0, (u : Int))) := Lib.hid ⟨hk, hu⟩
  have HF : Hid (firstL l s (k : Int) = f) := Lib.hid (by unfold firstL; rw [hasL_iff.2 ⟨hr, k, rfl, hk⟩, if_pos rfl, ← hf]; simp)
  have HI : Hid (-9223372036854775808 ≤ (k : Int) ∧ (k : Int) ≤ 9223372036854775807) := Lib.hid (by omega)
  clear h hg hr hn hf hfb hu hk
  go_enter Tryz.func37, Tryz.ntmps37
  go_wp2_with fail
  refine (first_any l s _ _ K1.out.h.m (k : Int) HI.out f HF.out).mono ?_
  rintro e w1 ⟨rfl, b1⟩
  have K2 := Lib.hid (K1.out.next b1)
  have hW : w.heap.size ≤ w1.heap.size := K2.out.h.below.size
  clear K1 b1
  have c0 := K2.out.h.c0
  have p0 := K2.out.p0
  obtain ⟨g, o, rfl, hlt, e0, e1⟩ := K2.out.h.at_ HL.out.1 HL.out.2
  dsimp only at e0 e1
  go_wp2_with fail
  clear e0
  go_loopw [8, 22] (fun t8 i wr => ∃ d : Nat, d ≤ u ∧ i = .int .i64 (d : Int) ∧ Hid (OwnC w1.heap.size wr t8 (mirL f t d z)) ∧ Hid (Below w1.heap.size w1 wr)) (fun _ i _ => u - (intOf i).toNat)
  case atStart => exact ⟨0, Nat.zero_le _, rfl, Lib.hid (OwnC.nil _ _), Lib.hid (Below.refl _ _)⟩
  case round =>
    obtain ⟨d, hd, rfl, HO, HB⟩ := hrel
    by_cases hdu : d < u
    · go_wp2_with fail
      go_loopw [8, 26] (fun t8 i wr => ∃ j : Nat, j ≤ z ∧ i = .int .i64 (j : Int) ∧ Hid (OwnC w1.heap.size wr t8 (mirL f t d z ++ mirRow f t d j)) ∧ Hid (Below w1.heap.size w1 wr)) (fun _ i _ => z - (intOf i).toNat)
      case atStart => exact ⟨0, Nat.zero_le _, rfl, Lib.hid (by simpa [mirRow] using HO.out), HB⟩
      case round =>
        obtain ⟨j, hj, rfl, HO2, HB2⟩ := hrel
        have K3 := Lib.hid (K2.out.next HB2.out)
        have q1 := K3.out.p1
        by_cases hjz : j < z
        · have hsz := HB2.out.size
          have hlen : Hid ((mirL f t d z ++ mirRow f t d j).length ≤ 100000) := Lib.hid (by
            rw [List.length_append, mirL_len, mirRow_len]
            have : d * z ≤ 8 * 4 := Nat.mul_le_mul (by omega) z4
            omega)
          go_wp2_with (first | (at_builtin; refine wpList_append_col _ rfl _ _ rfl w1.heap.size _ _ ⟨f + d, 16 + t + j, false, j⟩ wr.heap.size 1 rfl rfl (HO2.out.below (boxed _ _)) ⟨by simp, by simp, by simp, by simp⟩ (by simp; omega) hlen.out ?_; intro v3 w3 hown3 hb3 hs3))
          go_roundw
          case rel =>
            refine ⟨j + 1, by omega, by go_num, Lib.hid ?_, Lib.hid ((HB2.out.alloc hsz _).trans hb3)⟩
            rw [mirRow_succ, ← List.append_assoc]
            exact hown3
          case measure => simp [intOf]; omega
        · obtain rfl : j = z := by omega
          go_wp2
          go_roundw
          case rel => exact ⟨d + 1, by omega, by go_num, Lib.hid (by rw [mirL_succ]; exact HO2.out), HB2⟩
          case measure => simp [intOf]; omega
    · obtain rfl : d = u := by omega
      go_wp2
      go_ret
      exact ⟨_, rfl, HO.out.lower hW, next K2.out.h.below HB.out⟩
end Go.Proofs.YtlhnmcopioeboaaGreat

/- The closure that numbers sectors: cols.ofParity's. -/
namespace Go.Proofs.YtlhnmcopioeboaaGreat
set_option maxRecDepth 100000
open Go.RowKit

/-- The x-th of a group's sectors, as a column. -/
def colP (f : Int) (u x r : Nat) (p : Bool) : C := ⟨f + (x % u : Nat), 16 + (x / u : Nat), p, r⟩

set_option maxHeartbeats 2000000 in
theorem next_any (w : World) (bf bx bw : Nat) (f : Int) (x u r : Nat) (p : Bool) (hf : w.cell? ⟨bf, 0, none⟩ = some (.int .i64 f)) (hx : w.cell? ⟨bx, 0, none⟩ = some (.int .i64 (x : Int))) (hw : w.cell? ⟨bw, 0, none⟩ = some (.int .i64 (u : Int)))
    (lf : bf < w.heap.size) (lx : bx < w.heap.size) (lw : bw < w.heap.size) (hz : w.frozen? ⟨bx, 0, none⟩ = false) (f0 : 0 ≤ f) (f1 : f ≤ 32) (x1 : x ≤ 100000) (u3 : 3 ≤ u) (u8 : u ≤ 8) (c : C) (hc : colP f u x r p = c) :
    Calls Tryz.prog 63 #[.int .i64 (r : Int), .bool p, .pointer (some ⟨bf, 0, none⟩), .pointer (some ⟨bx, 0, none⟩), .pointer (some ⟨bw, 0, none⟩)] w fun e w' =>
      e = .returned (.agg #[.int .i64 c.dev, .int .i64 c.at_, .bool c.par, .int .i64 c.row]) ∧ Below w.heap.size (w.setCell ⟨bx, 0, none⟩ (.int .i64 ((x + 1 : Nat) : Int))) w' := by
  have HC : Hid (colP f u x r p = c) := Lib.hid hc
  clear hc
  have hm0 : 0 ≤ (x : Int) % u := Int.emod_nonneg _ (by omega)
  have hm1 : (x : Int) % u < u := Int.emod_lt_of_pos _ (by omega)
  have hd0 : 0 ≤ (x : Int) / u := Int.ediv_nonneg (by omega) (by omega)
  have hd1 : (x : Int) / u ≤ x := Int.ediv_le_self _ (by omega)
  go_enter Tryz.func63, Tryz.ntmps63
  go_wp2_with fail
  go_region
  go_wp2
  refine bodyPost_ret (v := (colP f u x r p).val) (by simp [results, Tryz.results63, go_sem, colP, C.val]) rfl ⟨by rw [← HC.out]; rfl, ?_⟩
  have e : (((x + 1 : Nat) : Int)) = (x : Int) + 1 := by omega
  rw [e]
  exact (((Below.refl _ _).alloc (by simp [World.setCell]) _).alloc (by simp [World.setCell]) _).drew
end Go.Proofs.YtlhnmcopioeboaaGreat

/- A block's columns of a Parity: cols.ofParity. -/
namespace Go.Proofs.YtlhnmcopioeboaaGreat
set_option maxRecDepth 100000
open Go.RowKit

/-- The columns of the first k sectors of a block. -/
def parTo (f : Int) (t u : Nat) : Nat → List C
  | 0 => []
  | k + 1 => if k % (u - 1) = 0 then parTo f t u k ++ [colP f u (t + (parTo f t u k).length) (k / (u - 1)) true] ++ [colP f u (t + (parTo f t u k).length + 1) (k / (u - 1)) false]
    else parTo f t u k ++ [colP f u (t + (parTo f t u k).length) (k / (u - 1)) false]
theorem parTo_len (f : Int) (t u k : Nat) : (parTo f t u k).length ≤ 2 * k := by
  induction k with
  | zero => simp [parTo]
  | succ k ih => unfold parTo; split <;> simp <;> omega

theorem grows_alloc {W W' : World} (h : Below W.heap.size W W') (o : Obj) : Below W.heap.size W (W'.alloc o) := h.alloc h.size o
theorem grows_set {W W' : World} (h : Below W.heap.size W W') {b i : Nat} (hb : W.heap.size ≤ b) (v : Value) : Below W.heap.size W (W'.setCell ⟨b, i, none⟩ v) := h.setCell (p := ⟨b, i, none⟩) hb v
theorem sg1 {W : World} {b : Nat} {v x : Value} (h : W.cell? ⟨b, 0, none⟩ = some x) : (W.setCell ⟨b, 0, none⟩ v).cell? ⟨b, 0, none⟩ = some v := World.cell?_setCell_same _ _ _ h
theorem sgo {W : World} {b b' : Nat} {v x : Value} (hne : b' ≠ b) (h : W.cell? ⟨b, 0, none⟩ = some x) : (W.setCell ⟨b', 0, none⟩ v).cell? ⟨b, 0, none⟩ = some x := by
  rw [World.cell?_setCell_other _ _ _ _ (by intro e; injection e with e1 _ _; exact hne (by first | exact e1 | exact e1.symm))]; exact h
theorem sg2 {W : World} {b b' : Nat} {v x y : Value} (hne : b' ≠ b) (h : W.cell? ⟨b, 0, none⟩ = some x) : ((W.setCell ⟨b', 0, none⟩ y).setCell ⟨b, 0, none⟩ v).cell? ⟨b, 0, none⟩ = some v := sg1 (sgo hne h)
theorem sg3 {W : World} {b b' : Nat} {v x y : Value} (hne : b' ≠ b) (h : W.cell? ⟨b, 0, none⟩ = some x) : ((W.setCell ⟨b, 0, none⟩ v).setCell ⟨b', 0, none⟩ y).cell? ⟨b, 0, none⟩ = some v := sgo hne (sg1 h)
theorem sga {W : World} {b : Nat} {v x : Value} {o : Obj} (hb : b < W.heap.size) (h : W.cell? ⟨b, 0, none⟩ = some x) : ((W.setCell ⟨b, 0, none⟩ v).alloc o).cell? ⟨b, 0, none⟩ = some v := by
  rw [(boxed (W.setCell ⟨b, 0, none⟩ v) o).cell (p := ⟨b, 0, none⟩) (by simp [World.setCell]; exact hb)]; exact sg1 h

theorem sgn {W : World} {a : Addr} {v x : Value} {ty : TypeId} : ((W.setCell a v).alloc (.cells #[x] ty)).cell? ⟨W.heap.size, 0, none⟩ = some x := by
  have e : (W.setCell a v).heap.size = W.heap.size := by simp [World.setCell]
  have h : ∀ U : World, (U.alloc (.cells #[x] ty)).cell? ⟨U.heap.size, 0, none⟩ = some x := fun U => by simp
  have h2 := h (W.setCell a v)
  rwa [e] at h2

/-- What the loop keeps: the first device, the next sector's number, the group's width, each in a variable. -/
structure PW (W1 : World) (B bf bx bw : Nat) (f : Int) (u x : Nat) (w : World) : Prop where
  cf : w.cell? ⟨bf, 0, none⟩ = some (.int .i64 f)
  cx : w.cell? ⟨bx, 0, none⟩ = some (.int .i64 (x : Int))
  cw : w.cell? ⟨bw, 0, none⟩ = some (.int .i64 (u : Int))
  fz : w.frozen? ⟨bx, 0, none⟩ = false
  lf : bf < B
  lx : bx < B
  lw : bw < B
  ge : W1.heap.size ≤ bx
  nf : bx ≠ bf
  nw : bx ≠ bw
  sz : B ≤ w.heap.size
  le : W1.heap.size ≤ B
  bel : Below W1.heap.size W1 w
theorem PW.keep {W1 : World} {B bf bx bw : Nat} {f : Int} {u x : Nat} {w w' : World} (h : PW W1 B bf bx bw f u x w) (hb : Below B w w') : PW W1 B bf bx bw f u x w' :=
  ⟨by rw [hb.cell (p := ⟨bf, 0, none⟩) h.lf]; exact h.cf, by rw [hb.cell (p := ⟨bx, 0, none⟩) h.lx]; exact h.cx, by rw [hb.cell (p := ⟨bw, 0, none⟩) h.lw]; exact h.cw, by rw [hb.frozen (p := ⟨bx, 0, none⟩) h.lx]; exact h.fz,
    h.lf, h.lx, h.lw, h.ge, h.nf, h.nw, Nat.le_trans h.sz hb.size, h.le, h.bel.trans (hb.mono h.le)⟩
theorem PW.step {W1 : World} {B bf bx bw : Nat} {f : Int} {u x : Nat} {w w' : World} (h : PW W1 B bf bx bw f u x w) (hb : Below w.heap.size (w.setCell ⟨bx, 0, none⟩ (.int .i64 ((x + 1 : Nat) : Int))) w') : PW W1 B bf bx bw f u (x + 1) w' := by
  have hsz : (w.setCell ⟨bx, 0, none⟩ (.int .i64 ((x + 1 : Nat) : Int))).heap.size = w.heap.size := by simp [World.setCell]
  have hs : PW W1 B bf bx bw f u (x + 1) (w.setCell ⟨bx, 0, none⟩ (.int .i64 ((x + 1 : Nat) : Int))) :=
    ⟨sgo h.nf h.cf, sg1 h.cx, sgo h.nw h.cw, by rw [World.frozen?_setCell]; exact h.fz, h.lf, h.lx, h.lw, h.ge, h.nf, h.nw, by rw [hsz]; exact h.sz, h.le, grows_set h.bel h.ge _⟩
  exact hs.keep (hb.mono h.sz)
theorem PW.own {W1 : World} {B bf bx bw : Nat} {f : Int} {u x : Nat} {w w' : World} (h : PW W1 B bf bx bw f u x w) {y : Value} (hb : Below w.heap.size (w.setCell ⟨bx, 0, none⟩ y) w') {v : Value} {l : List C} (ho : OwnC B w v l) : OwnC B w' v l := by
  have hsz : (w.setCell ⟨bx, 0, none⟩ y).heap.size = w.heap.size := by simp [World.setCell]
  exact OwnC.below (ownsRow_setCell_below ho (a := ⟨bx, 0, none⟩) h.lx y) (by rw [hsz]; exact hb)

theorem PW.call {W1 : World} {B bf bx bw : Nat} {f : Int} {u x : Nat} {w : World} (h : PW W1 B bf bx bw f u x w) (f0 : 0 ≤ f) (f1 : f ≤ 32) (x1 : x ≤ 100000) (u3 : 3 ≤ u) (u8 : u ≤ 8) (r : Nat) (p : Bool) (c : C) (hc : colP f u x r p = c) :
    Calls Tryz.prog 63 #[.int .i64 (r : Int), .bool p, .pointer (some ⟨bf, 0, none⟩), .pointer (some ⟨bx, 0, none⟩), .pointer (some ⟨bw, 0, none⟩)] w fun e w' =>
      e = .returned (.agg #[.int .i64 c.dev, .int .i64 c.at_, .bool c.par, .int .i64 c.row]) ∧ PW W1 B bf bx bw f u (x + 1) w' ∧ ∀ v l, OwnC B w v l → OwnC B w' v l :=
  (next_any w bf bx bw f x u r p h.cf h.cx h.cw (Nat.lt_of_lt_of_le h.lf h.sz) (Nat.lt_of_lt_of_le h.lx h.sz) (Nat.lt_of_lt_of_le h.lw h.sz) h.fz f0 f1 x1 u3 u8 c hc).mono fun _ _ ⟨h1, h2⟩ => ⟨h1, h.step h2, fun _ _ ho => h.own h2 ho⟩

set_option maxHeartbeats 2000000 in
theorem parity_any (l : List (Int × Int)) (s : Int) (v : Value) (w : World) (h : Meas w v l s) (hr : RightM l s) (k : Nat) (hk : k < l.length) (u : Nat) (hu : l[k] = (1, (u : Int))) (t : Nat) (t1 : t ≤ 40000) (z : Nat) (z4 : z ≤ 4) :
    Calls Tryz.prog 38 #[v, .agg #[.int .i64 (k : Int), .int .i64 (t : Int)], .int .i64 (z : Int)] w fun e w' => ∃ v', e = .returned v' ∧ OwnC w.heap.size w' v' (parTo (aheadL l k) t u z) ∧ Below w.heap.size w w' := by
  obtain ⟨a, n, c, rfl, hg⟩ := id h
  have hn := hg.1.2.1
  have hn4 : n ≤ 4 := by rw [← hn]; exact hr.few
  have hkn : k < n := by rw [← hn]; exact hk
  obtain ⟨uu1, uu8⟩ : 3 ≤ u ∧ u ≤ 8 := by
    have := hr.all k hk
    rw [hu] at this
    rcases okG_cases this with ⟨h1, _⟩ | ⟨_, h1, h2⟩
    · omega
    · omega
  obtain ⟨f, hf⟩ : ∃ f, aheadL l k = f := ⟨_, rfl⟩
  have hfb := hr.bounds k (Nat.le_of_lt hk)
  rw [hf] at hfb ⊢
  have f0 : 0 ≤ f := by omega
  have f1 : f ≤ 32 := by omega
  have K1 := Lib.hid (HeldP.start (k : Int) (t : Int) h)
  have HR := Lib.hid hr
  have HL : Hid (∃ hk : k < l.length, l[k] = (1, (u : Int))) := Lib.hid ⟨hk, hu⟩
  have HF : Hid (firstL l s (k : Int) = f) := Lib.hid (by unfold firstL; rw [hasL_iff.2 ⟨hr, k, rfl, hk⟩, if_pos rfl, ← hf]; simp)
  have HI : Hid (-9223372036854775808 ≤ (k : Int) ∧ (k : Int) ≤ 9223372036854775807) := Lib.hid (by omega)
  clear h hg hr hn hf hfb hu hk
  go_enter Tryz.func38, Tryz.ntmps38
  go_upto_region 1 with (fail)
  generalize hW1 : (w.alloc (.cells #[.slice a n c, .int .i64 s] 24)).alloc (.cells #[.int .i64 (k : Int), .int .i64 (t : Int)] 26) = W1 at K1
  clear hW1
  obtain ⟨g, o, rfl, hlt, e0, e1⟩ := K1.out.h.at_ HL.out.1 HL.out.2
  dsimp only at e0 e1
  have c0 := K1.out.h.c0
  have c1 := K1.out.h.c1
  have p0 := K1.out.p0
  have hb1 := K1.out.h.lt
  have hb2 := K1.out.plt
  go_cut [7, 8] (fun s7 s8 wc => ∃ bf bw, s7 = .pointer (some ⟨bf, 0, none⟩) ∧ s8 = .pointer (some ⟨bw, 0, none⟩) ∧ wc.cell? ⟨bf, 0, none⟩ = some (.int .i64 f) ∧ wc.cell? ⟨bw, 0, none⟩ = some (.int .i64 (u : Int)) ∧ bf < wc.heap.size ∧ bw < wc.heap.size ∧ W1.heap.size ≤ bf ∧ W1.heap.size ≤ bw ∧ Below W1.heap.size W1 wc)
  case first =>
    have hS0 : Below W1.heap.size W1 W1.drew := (Below.refl _ W1).drew
    have HA : Hid (∀ W : World, Below W1.heap.size W1 W → W.cell? ⟨w.heap.size, 0, none⟩ = some (.slice (some ⟨g, o, none⟩) n c) ∧ W.cell? ⟨w.heap.size, 1, none⟩ = some (.int .i64 s) ∧ W.cell? ⟨w.heap.size + 1, 0, none⟩ = some (.int .i64 (k : Int)) ∧ W.cell? ⟨g, o + k * 2 + 1, none⟩ = some (.int .i64 (u : Int)) ∧ Below W1.heap.size W1 W) := Lib.hid fun W hb =>
      ⟨by rw [hb.cell (p := ⟨w.heap.size, 0, none⟩) hb1]; exact c0, by rw [hb.cell (p := ⟨w.heap.size, 1, none⟩) hb1]; exact c1, by rw [hb.cell (p := ⟨w.heap.size + 1, 0, none⟩) hb2]; exact p0, by rw [hb.cell (p := ⟨g, o + k * 2 + 1, none⟩) hlt]; exact e1, hb⟩
    have HC : Hid (∀ W : World, (W.cell? ⟨w.heap.size, 0, none⟩ = some (.slice (some ⟨g, o, none⟩) n c) ∧ W.cell? ⟨w.heap.size, 1, none⟩ = some (.int .i64 s) ∧ W.cell? ⟨w.heap.size + 1, 0, none⟩ = some (.int .i64 (k : Int)) ∧ W.cell? ⟨g, o + k * 2 + 1, none⟩ = some (.int .i64 (u : Int)) ∧ Below W1.heap.size W1 W) → Calls Tryz.prog 62 #[.agg #[.slice (some ⟨g, o, none⟩) n c, .int .i64 s], .int .i64 (k : Int)] W fun e w' => e = .returned (.int .i64 f) ∧ Below W.heap.size W w' ∧ Below W1.heap.size W1 w') := Lib.hid fun W ⟨_, _, _, _, hb⟩ =>
      (first_any l s _ _ (K1.out.next hb).h.m (k : Int) HI.out f HF.out).mono fun e w' ⟨h1, h2⟩ => ⟨h1, h2, next hb h2⟩
    go_region_held3 (fun W => W.cell? ⟨w.heap.size, 0, none⟩ = some (.slice (some ⟨g, o, none⟩) n c) ∧ W.cell? ⟨w.heap.size, 1, none⟩ = some (.int .i64 s) ∧ W.cell? ⟨w.heap.size + 1, 0, none⟩ = some (.int .i64 (k : Int)) ∧ W.cell? ⟨g, o + k * 2 + 1, none⟩ = some (.int .i64 (u : Int)) ∧ Below W1.heap.size W1 W)
      ((refine HA.out _ ?_; repeat (first | with_reducible exact hS0 | with_reducible exact bw1 | with_reducible exact Below.refl _ _ | with_reducible refine grows_alloc ?_ _ | with_reducible refine grows_set ?_ (by omega) _ | with_reducible refine Below.drew ?_)))
      (first
      | (go_at_call 62; refine (HC.out _ ?_).mono ?_; assumption; rintro e w1 ⟨rfl, b1, bw1⟩; have bz1 := b1.size;
         (have q1 := @Below.cell _ _ _ b1 ⟨W1.heap.size, 0, none⟩); (have q2 := @Below.cell _ _ _ b1 ⟨W1.heap.size + 1, 0, none⟩); (have q3 := @Below.frozen _ _ _ b1 ⟨W1.heap.size, 0, none⟩); (have q4 := @Below.frozen _ _ _ b1 ⟨W1.heap.size + 1, 0, none⟩); (try simp at q1); (try simp at q2); (try simp at q3); (try simp at q4); (try have q1 := q1 (by omega)); (try have q2 := q2 (by omega)); (try have q3 := q3 (by omega)); (try have q4 := q4 (by omega)); (try simp at bz1); (try have bz2 : W1.heap.size < w1.heap.size := by omega); (try have bz3 : W1.heap.size + 1 < w1.heap.size := by omega)))
    all_goals
      go_wp2_with fail
      go_meet
      refine ⟨_, _, rfl, rfl, ?_, ?_, ?_, ?_, ?_, ?_, ?_⟩
      · first | (simp; done) | with_reducible exact sg1 q1 | with_reducible exact sg1 q2 | with_reducible exact sg2 (by omega) q1 | with_reducible exact sg2 (by omega) q2 | with_reducible exact sg3 (by omega) q1 | with_reducible exact sg3 (by omega) q2 | with_reducible exact sga (by omega) q1 | with_reducible exact sgn
      · first | (simp; done) | with_reducible exact sg1 q1 | with_reducible exact sg1 q2 | with_reducible exact sg2 (by omega) q1 | with_reducible exact sg2 (by omega) q2 | with_reducible exact sg3 (by omega) q1 | with_reducible exact sg3 (by omega) q2 | with_reducible exact sga (by omega) q1 | with_reducible exact sgn
      · first | (simp; done) | (simp [World.setCell]; omega)
      · first | (simp; done) | (simp [World.setCell]; omega)
      · omega
      · omega
      · repeat (first | with_reducible exact hS0 | with_reducible exact bw1 | with_reducible exact Below.refl _ _ | with_reducible refine grows_alloc ?_ _ | with_reducible refine grows_set ?_ (by omega) _ | with_reducible refine Below.drew ?_)
  case rest =>
    obtain ⟨bf, bw, rfl, rfl, cf, cw, lf, lw, gf, gw, hbc⟩ := hcut
    have K2 := Lib.hid (K1.out.next hbc)
    have q1 := K2.out.p1
    have q2 := K2.out.plt
    go_upto_region 4 with (fail)
    have hP : PW W1 (wc.heap.size + 1) bf wc.heap.size bw f u t (wc.alloc (.cells #[.int .i64 (t : Int)] 3)) :=
      ⟨by rw [(boxed wc _).cell (p := ⟨bf, 0, none⟩) lf]; exact cf, by simp, by rw [(boxed wc _).cell (p := ⟨bw, 0, none⟩) lw]; exact cw, by simp, by omega, by omega, by omega, hbc.size, by omega, by omega, by simp, by have := hbc.size; omega, grows_alloc hbc _⟩
    have HP := Lib.hid hP
    have HS : Hid ((wc.alloc (.cells #[.int .i64 (t : Int)] 3)).heap.size = wc.heap.size + 1) := Lib.hid (by simp)
    have HBZ := Lib.hid hbc.size
    generalize wc.alloc (.cells #[.int .i64 (t : Int)] 3) = W2 at *
    generalize wc.heap.size = bx at *
    have hbel := K1.out.h.below
    have HW := Lib.hid hbel
    clear hbel hP hbc q1 q2 cf cw lf lw gf gw K2 hlt e0 e1 c0 c1 p0 hb1 hb2
    obtain ⟨p, hp⟩ : ∃ p : Nat, (u : Int) - 1 = (p : Int) := ⟨u - 1, by omega⟩
    have HPu : Hid (u - 1 = p) := Lib.hid (by omega)
    have p2 : 2 ≤ p := by omega
    have p7 : p ≤ 7 := by omega
    go_wp2_with fail
    go_loopw [11, 29] (fun t11 i wr => ∃ j x : Nat, j ≤ z ∧ x ≤ 50000 ∧ i = .int .i64 (j : Int) ∧ Hid (x = t + (parTo f t u j).length) ∧ Hid (OwnC (bx + 1) wr t11 (parTo f t u j)) ∧ Hid (PW W1 (bx + 1) bf bx bw f u x wr)) (fun _ i _ => z - (intOf i).toNat)
    case atStart => exact ⟨0, t, Nat.zero_le _, by omega, rfl, Lib.hid rfl, Lib.hid (OwnC.nil _ _), HP⟩
    case round =>
      obtain ⟨j, x, hj, hx, rfl, HX, HO, HW2⟩ := hrel
      by_cases hjz : j < z
      · have cw := HW2.out.cw
        have lw := HW2.out.lw
        have HLen : Hid ((parTo f t u j).length ≤ 8) := Lib.hid (by have := parTo_len f t u j; omega)
        obtain ⟨r, hr⟩ : ∃ r : Nat, (j : Int) / (p : Int) = (r : Int) := ⟨j / p, by simp⟩
        obtain ⟨m, hm⟩ : ∃ m : Nat, (j : Int) % (p : Int) = (m : Int) := ⟨j % p, by simp⟩
        have HRR : Hid (j / (u - 1) = r) := Lib.hid (by rw [HPu.out]; have : ((j / p : Nat) : Int) = (r : Int) := by rw [← hr]; simp
                                                        omega)
        have HMM : Hid (j % (u - 1) = m) := Lib.hid (by rw [HPu.out]; have : ((j % p : Nat) : Int) = (m : Int) := by rw [← hm]; simp
                                                        omega)
        have r4 : r ≤ 4 := by have h1 := HRR.out; have h2 := Nat.div_le_self j (u - 1); omega
        by_cases hm0 : m = 0
        · subst hm0
          obtain ⟨c1, hc1⟩ : ∃ c1, colP f u x r true = c1 := ⟨_, rfl⟩
          obtain ⟨c2, hc2⟩ : ∃ c2, colP f u (x + 1) r false = c2 := ⟨_, rfl⟩
          have HC1 := Lib.hid hc1
          have HC2 := Lib.hid hc2
          clear hc1 hc2
          have HN : Hid (parTo f t u (j + 1) = (parTo f t u j ++ [c1]) ++ [c2]) := Lib.hid (by rw [parTo, if_pos HMM.out, HRR.out, ← HX.out, HC1.out, HC2.out])
          go_wp2_with fail
          refine (HW2.out.call f0 f1 (by omega) uu1 uu8 r true c1 HC1.out).mono ?_
          rintro e w3 ⟨rfl, hP3, ho3⟩
          have HP3 := Lib.hid hP3
          have HO3 := Lib.hid (ho3 _ _ HO.out)
          have sz3 := hP3.sz
          clear hP3 ho3 cw lw
          go_wp2_with (first | (at_builtin; refine wpList_append_col _ rfl _ _ rfl (bx + 1) _ _ c1 w3.heap.size 1 rfl rfl (HO3.out.below (boxed _ _)) ⟨by simp, by simp, by simp, by simp⟩ (by simp; omega) (Nat.le_trans HLen.out (by omega)) ?_; intro v4 w4 hown4 hb4 hs4) | fail)
          have hP4 := HP3.out.keep ((Below.refl _ w3).alloc sz3 (.cells #[.int .i64 c1.dev, .int .i64 c1.at_, .bool c1.par, .int .i64 c1.row] 44))
          have HP4 := Lib.hid (hP4.keep hb4)
          have HO4 := Lib.hid hown4
          clear hP4 hb4 hown4 hs4
          refine (HP4.out.call f0 f1 (by omega) uu1 uu8 r false c2 HC2.out).mono ?_
          rintro e w5 ⟨rfl, hP5, ho5⟩
          have HP5 := Lib.hid hP5
          have HO5 := Lib.hid (ho5 _ _ HO4.out)
          have sz5 := hP5.sz
          clear hP5 ho5
          go_wp2_with (first | (at_builtin; refine wpList_append_col _ rfl _ _ rfl (bx + 1) _ _ c2 w5.heap.size 1 rfl rfl (HO5.out.below (boxed _ _)) ⟨by simp, by simp, by simp, by simp⟩ (by simp; omega) (by have := HLen.out; simp; omega) ?_; intro v6 w6 hown6 hb6 hs6) | fail)
          have hP6 := HP5.out.keep ((Below.refl _ w5).alloc sz5 (.cells #[.int .i64 c2.dev, .int .i64 c2.at_, .bool c2.par, .int .i64 c2.row] 44))
          have HP6 := Lib.hid (hP6.keep hb6)
          have HO6 := Lib.hid hown6
          clear hP6 hb6 hown6 hs6
          go_roundw
          case rel =>
            refine ⟨j + 1, x + 1 + 1, by omega, ?_, by go_num, Lib.hid ?_, Lib.hid ?_, HP6⟩
            · have := HLen.out; have := HX.out; omega
            · rw [HN.out, List.length_append, List.length_append, HX.out]; rfl
            · rw [HN.out]; exact HO6.out
          case measure => simp [intOf]; omega
        · have hm1 : ((m : Int) == 0) = false := by simp [hm0]
          obtain ⟨c2, hc2⟩ : ∃ c2, colP f u x r false = c2 := ⟨_, rfl⟩
          have HC2 := Lib.hid hc2
          clear hc2
          have HN : Hid (parTo f t u (j + 1) = parTo f t u j ++ [c2]) := Lib.hid (by rw [parTo, if_neg (by rw [HMM.out]; exact hm0), HRR.out, ← HX.out, HC2.out])
          go_wp2_with fail
          refine (HW2.out.call f0 f1 (by omega) uu1 uu8 r false c2 HC2.out).mono ?_
          rintro e w5 ⟨rfl, hP5, ho5⟩
          have HP5 := Lib.hid hP5
          have HO5 := Lib.hid (ho5 _ _ HO.out)
          have sz5 := hP5.sz
          clear hP5 ho5 cw lw
          go_wp2_with (first | (at_builtin; refine wpList_append_col _ rfl _ _ rfl (bx + 1) _ _ c2 w5.heap.size 1 rfl rfl (HO5.out.below (boxed _ _)) ⟨by simp, by simp, by simp, by simp⟩ (by simp; omega) (by have := HLen.out; simp; omega) ?_; intro v6 w6 hown6 hb6 hs6) | fail)
          have hP6 := HP5.out.keep ((Below.refl _ w5).alloc sz5 (.cells #[.int .i64 c2.dev, .int .i64 c2.at_, .bool c2.par, .int .i64 c2.row] 44))
          have HP6 := Lib.hid (hP6.keep hb6)
          have HO6 := Lib.hid hown6
          clear hP6 hb6 hown6 hs6
          go_roundw
          case rel =>
            refine ⟨j + 1, x + 1, by omega, ?_, by go_num, Lib.hid ?_, Lib.hid ?_, HP6⟩
            · have := HLen.out; have := HX.out; omega
            · rw [HN.out, List.length_append, HX.out]; rfl
            · rw [HN.out]; exact HO6.out
          case measure => simp [intOf]; omega
      · obtain rfl : j = z := by omega
        go_wp2
        go_ret
        exact ⟨_, rfl, HO.out.lower (by have := HW.out.size; have := HBZ.out; omega), next HW.out HW2.out.bel⟩
end Go.Proofs.YtlhnmcopioeboaaGreat

/- A region that draws its order, whose operations read and whose callees may make memory: one walk in the text's order serves, where all worlds that come up are of one family. -/
namespace Go.Proofs.YtlhnmcopioeboaaGreat
set_option maxRecDepth 100000
open Go.RowKit

theorem wp_region_family {P : Program} {X : Type} (f : X → World) {id : Nat} {Q : Exit → Act → World → Prop} {a : Act} {w : World} {l : List Oper} (hm : P.follows .mixedOrders = true) (hB : Region.lexB .any l.toArray = true)
    (h0 : ∃ x, { w with drawn := w.drawn + 1 } = f x)
    (h : wpQuiet P l.toArray (fun w' => ∃ x, w' = f x) (fun a' => ∀ w', (∃ x, w' = f x) → Q .normal a' w') l a) : (Code.region id l.toArray true).wp P Q a w :=
  wp_region_quiet (C := fun w' => ∃ x, w' = f x) hm hB h0 (by simpa using h)
end Go.Proofs.YtlhnmcopioeboaaGreat
