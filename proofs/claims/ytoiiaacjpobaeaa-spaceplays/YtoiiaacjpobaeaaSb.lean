/-
  Runs and maps in memory.
-/
import Derived.Test.YtoiiaacjpobaeaaSa
import Derived.Test.YtoiiaacjpobaeaaKit
import Derived.Test.YtoiiaacjpobaeaaReg
import Derived.Deep.RegionHeld3
import Derived.Laws.AppendOwn
import Derived.Laws.OwnMore
import Derived.IntWalk
import Derived.Deep.AppendSrc
namespace Go.Proofs.Ytoiiaacjpobaeaa
set_option maxRecDepth 100000
open Go.RowKit

theorem bounds_i64 {n : Int} (h : (Lit.int .i64 n).wf = true) : -9223372036854775808 ≤ n ∧ n ≤ 9223372036854775807 := by
  simpa [Lit.wf, IntKind.min, IntKind.max, IntKind.signed, IntKind.bits] using h
theorem bounds_u8 {n : Int} (h : (Lit.int .u8 n).wf = true) : 0 ≤ n ∧ n ≤ 255 := by
  simpa [Lit.wf, IntKind.min, IntKind.max, IntKind.signed, IntKind.bits] using h
/-- Worlds that grow one behind the other. -/
theorem next {w w1 w2 : World} (h : Below w.heap.size w w1) (k : Below w1.heap.size w1 w2) : Below w.heap.size w w2 := h.trans (k.mono h.size)
theorem early {B : Nat} {w w1 w2 : World} (b1 : Below B w w1) (hB : B ≤ w1.heap.size) (b2 : Below w1.heap.size w1 w2) : Below B w w2 := b1.trans (b2.mono hB)
theorem boxed (w : World) (o : Obj) : Below w.heap.size w (w.alloc o) := (Below.refl _ w).alloc (Nat.le_refl _) o
theorem add_plain' (g i j : Nat) : (⟨g, i, none⟩ : Addr).add j = ⟨g, i + j, none⟩ := Go.WideShapes.add_plain g i j

structure Ext (W : World) where
  v : World
  h : Below W.heap.size W v
theorem Ext.cell {W : World} (q : Ext W) {b i : Nat} {x : Value} (h : W.cell? ⟨b, i, none⟩ = some x) (hb : b < W.heap.size) : q.v.cell? ⟨b, i, none⟩ = some x := by
  rw [q.h.cell (p := ⟨b, i, none⟩) hb]; exact h
theorem Ext.some (W : World) : Nonempty (Ext W) := ⟨⟨W, Below.refl _ _⟩⟩
theorem Ext.calls {W : World} {f : FuncId} {args : Array Value} {x : Value} (h : ∀ w, Below W.heap.size W w → Calls Try.prog f args w fun e w' => e = .returned x ∧ Below w.heap.size w w') (q : Ext W) :
    Calls Try.prog f args q.v fun e w' => e = .returned x ∧ ∃ q' : Ext W, w' = q'.v :=
  (h q.v q.h).mono fun _ w' ⟨h1, h2⟩ => ⟨h1, ⟨w', next q.h h2⟩, rfl⟩

def cellsR (x : Int × Int) : List Value := [.int .i64 x.1, .int .i64 x.2]
def flatR (l : List (Int × Int)) : List Value := l.flatMap cellsR
theorem flatR_len (l : List (Int × Int)) : (flatR l).length = l.length * 2 := by
  induction l with
  | nil => rfl
  | cons c r ih => simp only [flatR, List.flatMap_cons, List.length_append, List.length_cons] at ih ⊢; rw [ih]; simp [cellsR]; omega
theorem flatR_app (l m : List (Int × Int)) : flatR (l ++ m) = flatR l ++ flatR m := by simp [flatR]
theorem flatR_at (l : List (Int × Int)) (i : Nat) (hi : i < l.length) (j : Nat) (hj : j < 2) : (flatR l)[i * 2 + j]? = (cellsR l[i])[j]? := by
  induction l generalizing i with
  | nil => simp at hi
  | cons s r ih =>
    cases i with
    | zero =>
      simp only [flatR, List.flatMap_cons, List.getElem_cons_zero, Nat.zero_mul, Nat.zero_add]
      rw [List.getElem?_append_left (by simp [cellsR]; omega)]
    | succ i =>
      simp only [flatR, List.flatMap_cons, List.getElem_cons_succ]
      rw [List.getElem?_append_right (by simp [cellsR]; omega), show (cellsR s).length = 2 from rfl, show (i + 1) * 2 + j - 2 = i * 2 + j by omega]
      exact ih i (by simpa using hi)
theorem flatR_one (l : List (Int × Int)) : ∀ v ∈ flatR l, v.oneCell' = true := by
  intro v hv
  obtain ⟨s, _, h⟩ := List.mem_flatMap.1 hv
  simp [cellsR] at h
  rcases h with rfl | rfl <;> rfl
theorem flatR_drop (k : Nat) (l : List (Int × Int)) : (flatR l).drop (k * 2) = flatR (l.drop k) := by
  induction l generalizing k with
  | nil => simp [flatR]
  | cons s r ih =>
    cases k with
    | zero => simp
    | succ k =>
      rw [List.drop_succ_cons, ← ih k, show (k + 1) * 2 = k * 2 + 2 by omega]
      rfl

/-- A run's two cells. -/
structure IsRun (w : World) (g o : Nat) (x : Int × Int) : Prop where
  c0 : w.cell? ⟨g, o, none⟩ = some (.int .i64 x.1)
  c1 : w.cell? ⟨g, o + 1, none⟩ = some (.int .i64 x.2)
theorem IsRun.below {w w' : World} {B g o : Nat} {c : Int × Int} (h : IsRun w g o c) (hg : g < B) (hb : Below B w w') : IsRun w' g o c :=
  ⟨(hb.cell (p := ⟨g, o, none⟩) hg).trans h.c0, (hb.cell (p := ⟨g, o + 1, none⟩) hg).trans h.c1⟩

/-- Block g has room for c runs, and begins with the runs l. -/
def Row (w : World) (g c : Nat) (l : List (Int × Int)) : Prop := ∃ rest : List Value, w.heap[g]? = some (.cells (flatR l ++ rest).toArray 39 (0, 0)) ∧ c * 2 ≤ l.length * 2 + rest.length
theorem Row.lt {w : World} {g c : Nat} {l : List (Int × Int)} (h : Row w g c l) : g < w.heap.size := by
  obtain ⟨r, h, _⟩ := h
  exact (Array.getElem?_eq_some_iff.1 h).1
theorem Row.of {w w' : World} {g c : Nat} {l : List (Int × Int)} (h : Row w g c l) (e : w'.heap[g]? = w.heap[g]?) : Row w' g c l := by
  obtain ⟨r, h, h2⟩ := h
  exact ⟨r, e.trans h, h2⟩
theorem Row.less {w : World} {g c c' : Nat} {p m : List (Int × Int)} (h : Row w g c (p ++ m)) (hc : c' ≤ c) : Row w g c' p := by
  obtain ⟨r, h, h2⟩ := h
  refine ⟨flatR m ++ r, by rw [h, flatR_app, List.append_assoc], ?_⟩
  rw [List.length_append, flatR_len]
  rw [List.length_append] at h2
  omega
theorem Row.is {w : World} {g c : Nat} {l : List (Int × Int)} (h : Row w g c l) (j : Nat) (hj : j < l.length) : IsRun w g (j * 2) l[j] := by
  obtain ⟨r, h, _⟩ := h
  have hl := flatR_len l
  have e : ∀ i, i < 2 → w.cell? ⟨g, j * 2 + i, none⟩ = (cellsR l[j])[i]? := fun i hi => by
    rw [cell_of_row w g _ _ _ (0, 0) h, List.getElem?_toArray, List.getElem?_append_left (by omega)]
    exact flatR_at l j hj i hi
  exact ⟨e 0 (by omega), e 1 (by omega)⟩
/-- What is appended. -/
def SrcR (w : World) (v : Value) (l : List (Int × Int)) : Prop :=
  (v = .slice none 0 0 ∧ l = []) ∨ ∃ g o n c, v = .slice (some ⟨g, o, none⟩) n c ∧ l.length = n ∧ ∀ j (h : j < l.length), IsRun w g (o + j * 2) l[j]
/-- Block g behind an append of x to the runs p. -/
structure Over (w : World) (g : Nat) (p x : List (Int × Int)) (w' : World) : Prop where
  grown : w.grownBy w' (some g)
  row : ∀ c l, Row w g c (p ++ l) → p.length + x.length ≤ c → Row w' g c (p ++ (x ++ l.drop x.length))

theorem info_run : ∃ i, Try.prog.info? 39 = some i ∧ i.zero = some (.agg #[.int .i64 0, .int .i64 0]) ∧ i.size = 2 ∧ i.bytes = 16 := info_parts (by kernel_rfl)
theorem SrcR.src {w : World} {v : Value} {l : List (Int × Int)} (h : SrcR w v l) : Src Try.prog 2 36 v l.length (flatR l) w := by
  rcases h with ⟨rfl, rfl⟩ | ⟨g, o, n, c, rfl, rfl, hi⟩
  · exact Src.ofNil w Try.underlying36 0
  · refine Src.ofSlice w Try.underlying36 _ _ c _ (flatR_len l) (fun j u hu => ?_) (flatR_one l)
    have hlt : j < l.length * 2 := by rw [← flatR_len]; exact (List.getElem?_eq_some_iff.1 hu).1
    have e := flatR_at l (j / 2) (by omega) (j % 2) (Nat.mod_lt _ (by decide))
    rw [show j / 2 * 2 + j % 2 = j by omega, hu] at e
    obtain ⟨c0, c1⟩ := hi (j / 2) (by omega)
    rw [add_plain']
    rcases Nat.mod_two_eq_zero_or_one j with h | h
    · rw [h] at e
      rw [show o + j = o + j / 2 * 2 by omega, c0]
      exact e.symm
    · rw [h] at e
      rw [show o + j = o + j / 2 * 2 + 1 by omega, c1]
      exact e.symm

theorem run_append_runs (w : World) (ty : TypeId) (g k c : Nat) (p x : List (Int × Int)) (v : Value) (hR : Row w g c p) (hp : p.length = k) (hv : SrcR w v x) (hm : k + x.length ≤ 1000000) :
    (k + x.length ≤ c → ∃ w', (Builtin.append_ #[36, 36] ty #[.slice (some ⟨g, 0, none⟩) k c, v]).run Try.prog w = .ok (.slice (some ⟨g, 0, none⟩) (k + x.length) c) w' ∧ Over w g p x w') ∧
    (c < k + x.length → ∃ c' w', (Builtin.append_ #[36, 36] ty #[.slice (some ⟨g, 0, none⟩) k c, v]).run Try.prog w = .ok (.slice (some ⟨w.heap.size, 0, none⟩) (k + x.length) c') w' ∧
      Below w.heap.size w w' ∧ w'.heap.size = w.heap.size + 1 ∧ Row w' w.heap.size c' (p ++ x) ∧ k + x.length ≤ c' ∧ c' ≤ maxLen) := by
  subst hp
  obtain ⟨i, hi, hz, hsz, hby⟩ := info_run
  have hS := hv.src
  have hS' := hS
  rw [← hsz] at hS'
  obtain ⟨rest, hg, hc⟩ := hR
  have hlen := flatR_len x
  have hlp := flatR_len p
  constructor
  · intro hroom
    have hsize : (flatR p ++ rest).toArray.size = p.length * 2 + rest.length := by simp [hlp]
    have hcell : ∀ j, j < (flatR x).length → (w.cell? ⟨g, 0 + p.length * i.size + j, none⟩).isSome = true := fun j hj => by
      rw [cell_of_row w g _ _ _ (0, 0) hg, List.getElem?_toArray, List.getElem?_eq_getElem (by rw [List.length_append, hlp, hsz]; omega)]; rfl
    have hfro : ∀ j, j < (flatR x).length → w.frozen? ⟨g, 0 + p.length * i.size + j, none⟩ = false := fun j _ => frozen_of_row w g _ _ _ hg
    have hst := run_storeCells_at Try.prog g (p.length * 2) 39 (flatR x) 0 (flatR p ++ rest).toArray w hg (by rw [hsize, hlen]; omega) (flatR_one x)
    simp only [Nat.add_zero] at hst
    have hrun : (Builtin.append_ #[36, 36] ty #[.slice (some ⟨g, 0, none⟩) p.length c, v]).run Try.prog w = .ok (.slice (some ⟨g, 0, none⟩) (p.length + x.length) c)
        (w.setRow g ((flatR p ++ rest).toArray.toList.take (p.length * 2) ++ flatR x ++ (flatR p ++ rest).toArray.toList.drop (p.length * 2 + (flatR x).length)).toArray) := by
      have hl := hS'.len
      have hcs := hS'.cells
      rw [hsz] at hcs
      simp [Builtin.append_, run_underlying Try.underlying36, sizeOf, typeInfo, hi, hsz, hl, hroom, hcs, Addr.add_lit, hst]
    refine ⟨_, hrun, ⟨rfl, rfl, rfl, by simp, fun k _ hk => setRow_other w g k _ (fun e => hk (by simp [e]))⟩, fun c2 l ⟨r2, hg2, hc2⟩ hroom2 => ?_⟩
    rw [hg] at hg2
    simp only [Option.some.injEq, Obj.cells.injEq, and_true] at hg2
    have e2 : flatR p ++ rest = flatR (p ++ l) ++ r2 := by simpa using hg2
    refine ⟨r2.drop (x.length * 2 - l.length * 2), ?_, ?_⟩
    · rw [setRow_heap w g _ _ _ _ hg]
      congr 2
      rw [flatR_app, List.append_assoc] at e2
      have e3 := List.append_cancel_left e2
      rw [List.toList_toArray, List.take_left' hlp, hlen, ← List.drop_drop, List.drop_left' hlp, e3, List.drop_append, flatR_drop, flatR_len, flatR_app, flatR_app]
      simp
    · simp only [List.length_append, List.length_drop] at hc2 ⊢
      omega
  · intro hgrow
    have hcur : ∀ j u, (flatR p)[j]? = some u → w.cell? ((⟨g, 0, none⟩ : Addr).add j) = some u := fun j u hu => by
      rw [add_plain', Nat.zero_add, cell_of_row w g _ _ _ (0, 0) hg, List.getElem?_toArray, List.getElem?_append_left (List.getElem?_eq_some_iff.1 hu).1]
      exact hu
    have hold := run_firstCells_some (P := Try.prog) w.drew i.size p.length ⟨g, 0, none⟩ p.length c (flatR p) (by rw [hsz, hlp]) (by simpa using hcur)
    have hm2 : p.length + x.length ≤ maxLen := by unfold maxLen; omega
    have h := run_append_grow_src (P := Try.prog) w 36 36 ty 39 i _ Try.underlying36 hi hz (some ⟨g, 0, none⟩) p.length c (flatR p) hold v x.length (flatR x) hS' hgrow (by omega) (growslice_fits hgrow (by rw [hby]; omega))
    refine ⟨_, _, h, (Below.refl _ w).drew.alloc (by simp) _, by simp, ⟨(Builtin.zeroCells (Value.agg #[.int .i64 0, .int .i64 0]).cells (grownCap w (p.length + x.length) c 39 - (p.length + x.length))).toList, ?_, ?_⟩, grownCap_ge w _ _ _, grownCap_le_maxLen w _ _ _ hm2⟩
    · have := heap_alloc_new w.drew (.cells ((flatR p ++ flatR x).toArray ++ Builtin.zeroCells (Value.agg #[.int .i64 0, .int .i64 0]).cells (grownCap w (p.length + x.length) c 39 - (p.length + x.length))) 39)
      rw [show w.drew.heap.size = w.heap.size from rfl] at this
      rw [this, flatR_app]
      congr 2
      simp
    · have hge := grownCap_ge w (p.length + x.length) c 39
      show _ ≤ _ + (Builtin.zeroCells _ _).size
      rw [size_zeroCells, List.length_append]
      show _ ≤ _ + _ * 2
      omega
theorem run_append_none (w : World) (ty : TypeId) (x : List (Int × Int)) (v : Value) (hv : SrcR w v x) (h0 : 0 < x.length) (hm : x.length ≤ 1000000) :
    ∃ c' w', (Builtin.append_ #[36, 36] ty #[.slice none 0 0, v]).run Try.prog w = .ok (.slice (some ⟨w.heap.size, 0, none⟩) x.length c') w' ∧
      Below w.heap.size w w' ∧ w'.heap.size = w.heap.size + 1 ∧ Row w' w.heap.size c' x ∧ x.length ≤ c' ∧ c' ≤ maxLen := by
  obtain ⟨i, hi, hz, hsz, hby⟩ := info_run
  have hS' := hv.src
  rw [← hsz] at hS'
  have hm2 : x.length ≤ maxLen := by unfold maxLen; omega
  have h := run_append_grow_src (P := Try.prog) w 36 36 ty 39 i _ Try.underlying36 hi hz none 0 0 [] (run_firstCells_none w.drew i.size 0 0 0) v x.length (flatR x) hS' (by omega) (by omega) (growslice_fits (by omega) (by rw [hby]; omega))
  simp only [Nat.zero_add, List.nil_append] at h
  refine ⟨_, _, h, (Below.refl _ w).drew.alloc (by simp) _, by simp, ⟨(Builtin.zeroCells (Value.agg #[.int .i64 0, .int .i64 0]).cells (grownCap w x.length 0 39 - x.length)).toList, ?_, ?_⟩, grownCap_ge w _ _ _, grownCap_le_maxLen w _ _ _ hm2⟩
  · have := heap_alloc_new w.drew (.cells ((flatR x).toArray ++ Builtin.zeroCells (Value.agg #[.int .i64 0, .int .i64 0]).cells (grownCap w x.length 0 39 - x.length)) 39)
    rw [show w.drew.heap.size = w.heap.size from rfl] at this
    rw [this]
    congr 2
    simp
  · have hge := grownCap_ge w x.length 0 39
    show _ ≤ _ + (Builtin.zeroCells _ _).size
    rw [size_zeroCells]
    show _ ≤ _ + _ * 2
    omega

/-- append(s, x...). -/
theorem wpList_append_runs {ops : Array Oper} {rest : List Oper} {o : Oper} {a : Act} {Q : Exit → Act → World → Prop} (w : World) (hgd : o.guard = none) (s x : Operand)
    (ho : o.op = .call { callee := .builtin .append, args := #[s, x], argTypes := #[36, 36] }) (g k c N : Nat) (p m : List (Int × Int)) (v : Value) (hs : a.eval s = .slice (some ⟨g, 0, none⟩) k c) (hx : a.eval x = v)
    (hR : Row w g c p) (hp : p.length = k) (hv : SrcR w v m) (hN : k + m.length = N) (hm : N ≤ 1000000)
    (hroom : N ≤ c → ∀ w', Over w g p m w' → wpList Try.prog ops Q rest (a.put o.dst (.slice (some ⟨g, 0, none⟩) N c)) w')
    (hgrow : c < N → ∀ g' c' w', w.heap.size ≤ g' → Below w.heap.size w w' → Row w' g' c' (p ++ m) → N ≤ c' → c' ≤ maxLen → wpList Try.prog ops Q rest (a.put o.dst (.slice (some ⟨g', 0, none⟩) N c')) w') : wpList Try.prog ops Q (o :: rest) a w := by
  subst hN
  obtain ⟨h1, h2⟩ := run_append_runs w o.type g k c p m v hR hp hv hm
  refine wpList_plain hgd fun K hK => ?_
  unfold Oper.wp execOp
  rcases Nat.lt_or_ge c (k + m.length) with hlt | hge
  · obtain ⟨c', w', hr, hb, _, hrow, hc1, hc2⟩ := h2 hlt
    simp only [ho, resolve, invoke, builtin, Sem.run_bind, Sem.run_pure, Result.andThen_ok, List.map_toArray, List.map_cons, List.map_nil, hs, hx, hr]
    exact hK _ _ (hgrow hlt _ c' w' (Nat.le_refl _) hb hrow hc1 hc2)
  · obtain ⟨w', hr, hov⟩ := h1 hge
    simp only [ho, resolve, invoke, builtin, Sem.run_bind, Sem.run_pure, Result.andThen_ok, List.map_toArray, List.map_cons, List.map_nil, hs, hx, hr]
    exact hK _ _ (hroom hge w' hov)
theorem wpList_append_runs0 {ops : Array Oper} {rest : List Oper} {o : Oper} {a : Act} {Q : Exit → Act → World → Prop} (w : World) (hgd : o.guard = none) (s x : Operand)
    (ho : o.op = .call { callee := .builtin .append, args := #[s, x], argTypes := #[36, 36] }) (N : Nat) (m : List (Int × Int)) (v : Value) (hs : a.eval s = .slice none 0 0) (hx : a.eval x = v)
    (hv : SrcR w v m) (h0 : 0 < N) (hN : m.length = N) (hm : N ≤ 1000000)
    (h : ∀ g' c' w', w.heap.size ≤ g' → Below w.heap.size w w' → Row w' g' c' m → N ≤ c' → c' ≤ maxLen → wpList Try.prog ops Q rest (a.put o.dst (.slice (some ⟨g', 0, none⟩) N c')) w') : wpList Try.prog ops Q (o :: rest) a w := by
  subst hN
  obtain ⟨c', w', hr, hb, _, hrow, hc1, hc2⟩ := run_append_none w o.type m v hv h0 hm
  refine wpList_plain hgd fun K hK => ?_
  unfold Oper.wp execOp
  simp only [ho, resolve, invoke, builtin, Sem.run_bind, Sem.run_pure, Result.andThen_ok, List.map_toArray, List.map_cons, List.map_nil, hs, hx, hr]
  exact hK _ _ (h _ c' w' (Nat.le_refl _) hb hrow hc1 hc2)

/-- The slice v is the runs l. -/
def RunsV (w : World) (v : Value) (l : List (Int × Int)) : Prop :=
  (v = .slice none 0 0 ∧ l = []) ∨ ∃ g n c, v = .slice (some ⟨g, 0, none⟩) n c ∧ l.length = n ∧ n ≤ c ∧ c ≤ maxLen ∧ Row w g c l
theorem RunsV.of {w w' : World} {v : Value} {l : List (Int × Int)} (h : RunsV w v l) (e : ∀ k, v.ownBlock = some k → w'.heap[k]? = w.heap[k]?) : RunsV w' v l := by
  rcases h with h | ⟨g, n, c, rfl, h1, h2, h3, h4⟩
  · exact .inl h
  · exact .inr ⟨g, n, c, rfl, h1, h2, h3, h4.of (e g rfl)⟩
theorem RunsV.lt {w : World} {v : Value} {l : List (Int × Int)} (h : RunsV w v l) {k : Nat} (hk : v.ownBlock = some k) : k < w.heap.size := by
  rcases h with ⟨rfl, _⟩ | ⟨g, n, c, rfl, h1, h2, h3, h4⟩
  · cases hk
  · cases hk; exact h4.lt
theorem RunsV.below {w w' : World} {v : Value} {l : List (Int × Int)} (h : RunsV w v l) (hb : Below w.heap.size w w') : RunsV w' v l := h.of fun k hk => hb.block k (h.lt hk)
theorem RunsV.src {w : World} {v : Value} {l : List (Int × Int)} (h : RunsV w v l) : SrcR w v l := by
  rcases h with h | ⟨g, n, c, rfl, h1, h2, h3, h4⟩
  · exact .inl h
  · exact .inr ⟨g, 0, n, c, rfl, h1, fun j hj => by rw [Nat.zero_add]; exact h4.is j hj⟩

/-- A map in block b: its size, the slice of its runs. -/
structure MapV (w : World) (b : Nat) (z : Int) (v : Value) (l : List (Int × Int)) : Prop where
  m : w.heap[b]? = some (.cells #[.int .i64 z, v] 52 (0, 0))
  r : RunsV w v l
theorem MapV.c0 {w : World} {b : Nat} {z : Int} {v : Value} {l : List (Int × Int)} (h : MapV w b z v l) : w.cell? ⟨b, 0, none⟩ = some (.int .i64 z) := by rw [cell_of_row w b _ _ _ (0, 0) h.m]; rfl
theorem MapV.c1 {w : World} {b : Nat} {z : Int} {v : Value} {l : List (Int × Int)} (h : MapV w b z v l) : w.cell? ⟨b, 1, none⟩ = some v := by rw [cell_of_row w b _ _ _ (0, 0) h.m]; rfl
theorem MapV.f1 {w : World} {b : Nat} {z : Int} {v : Value} {l : List (Int × Int)} (h : MapV w b z v l) : w.frozen? ⟨b, 1, none⟩ = false := frozen_of_row w b _ _ _ h.m
theorem MapV.lt {w : World} {b : Nat} {z : Int} {v : Value} {l : List (Int × Int)} (h : MapV w b z v l) : b < w.heap.size := (Array.getElem?_eq_some_iff.1 h.m).1
theorem MapV.of {w w' : World} {b : Nat} {z : Int} {v : Value} {l : List (Int × Int)} (h : MapV w b z v l) (e : w'.heap[b]? = w.heap[b]?) (e2 : ∀ k, v.ownBlock = some k → w'.heap[k]? = w.heap[k]?) : MapV w' b z v l :=
  ⟨e.trans h.m, h.r.of e2⟩
theorem MapV.below {w w' : World} {b : Nat} {z : Int} {v : Value} {l : List (Int × Int)} (h : MapV w b z v l) (hb : Below w.heap.size w w') : MapV w' b z v l := h.of (hb.block b h.lt) fun k hk => hb.block k (h.r.lt hk)
theorem MapV.apart {w : World} {b : Nat} {z : Int} {v : Value} {l : List (Int × Int)} (h : MapV w b z v l) : v.ownBlock ≠ some b := by
  rcases h.r with ⟨rfl, _⟩ | ⟨g, n, c, rfl, h1, h2, h3, r, h4, _⟩
  · intro e; cases e
  · intro e
    cases e
    have := h.m
    rw [h4] at this
    simp at this

/-- A map whose blocks lie from block B on, apart from the blocks x. -/
structure MapAt (B : Nat) (x : Nat → Prop) (w : World) (b : Nat) (z : Int) (v : Value) (l : List (Int × Int)) : Prop where
  mv : MapV w b z v l
  hB : B ≤ b
  hx : ¬ x b
  hv : ∀ k, v.ownBlock = some k → B ≤ k ∧ ¬ x k
  lx : ∀ k, x k → k < w.heap.size
def MapIn (B : Nat) (x : Nat → Prop) (w : World) (b : Nat) (z : Int) (l : List (Int × Int)) : Prop := ∃ v, MapAt B x w b z v l
/-- What is below block B, and the blocks x, are as they were. -/
structure KeptX (B : Nat) (x : Nat → Prop) (w w' : World) : Prop where
  low : Below B w w'
  kept : ∀ k, x k → w'.heap[k]? = w.heap[k]?
/-- No block. -/
def noX : Nat → Prop := fun _ => False
section
variable {B : Nat} {x : Nat → Prop} {w w' : World} {b : Nat} {z : Int} {v : Value} {l : List (Int × Int)}
theorem KeptX.refl (B : Nat) (x : Nat → Prop) (w : World) : KeptX B x w w := ⟨Below.refl _ _, fun _ _ => rfl⟩
theorem KeptX.trans {w'' : World} (h : KeptX B x w w') (k : KeptX B x w' w'') : KeptX B x w w'' := ⟨h.low.trans k.low, fun i hi => (k.kept i hi).trans (h.kept i hi)⟩
theorem KeptX.of (h : Below w.heap.size w w') (hB : B ≤ w.heap.size) (hx : ∀ k, x k → k < w.heap.size) : KeptX B x w w' := ⟨h.mono hB, fun k hk => h.block k (hx k hk)⟩
theorem KeptX.only {y : Nat → Prop} (h : KeptX B x w w') (hy : ∀ k, y k → x k) : KeptX B y w w' := ⟨h.low, fun k hk => h.kept k (hy k hk)⟩
theorem MapAt.lt (h : MapAt B x w b z v l) : B ≤ w.heap.size := by have := h.mv.lt; have := h.hB; omega
theorem MapIn.lt (h : MapIn B x w b z l) : B ≤ w.heap.size := by obtain ⟨v, h⟩ := h; exact h.lt
theorem MapAt.below (h : MapAt B x w b z v l) (hb : Below w.heap.size w w') : MapAt B x w' b z v l :=
  ⟨h.mv.below hb, h.hB, h.hx, h.hv, fun k hk => Nat.lt_of_lt_of_le (h.lx k hk) hb.size⟩
theorem MapIn.below (h : MapIn B x w b z l) (hb : Below w.heap.size w w') : MapIn B x w' b z l := by obtain ⟨v, h⟩ := h; exact ⟨v, h.below hb⟩
theorem MapIn.keep (h : MapIn B x w b z l) (hb : Below w.heap.size w w') : KeptX B x w w' := by
  obtain ⟨v, h⟩ := h
  exact KeptX.of hb h.lt h.lx
theorem MapIn.only {y : Nat → Prop} (h : MapIn B x w b z l) (hy : ∀ k, y k → x k) : MapIn B y w b z l := by
  obtain ⟨v, h⟩ := h
  exact ⟨v, h.mv, h.hB, fun e => h.hx (hy _ e), fun k hk => ⟨(h.hv k hk).1, fun e => (h.hv k hk).2 (hy k e)⟩, fun k hk => h.lx k (hy k hk)⟩
theorem MapIn.free (h : MapIn B x w b z l) : MapIn B noX w b z l := h.only fun _ h => False.elim h
theorem MapIn.lower {B' : Nat} (h : MapIn B x w b z l) (hB : B' ≤ B) : MapIn B' x w b z l := by
  obtain ⟨v, h⟩ := h
  exact ⟨v, h.mv, Nat.le_trans hB h.hB, h.hx, fun k hk => ⟨Nat.le_trans hB (h.hv k hk).1, (h.hv k hk).2⟩, h.lx⟩
/-- A block that has come since is apart from it. -/
theorem MapIn.since (h : MapIn B x w b z l) (hb : Below w.heap.size w w') {k : Nat} (h0 : w.heap.size ≤ k) (h1 : k < w'.heap.size) : MapIn B (fun j => x j ∨ j = k) w' b z l := by
  obtain ⟨v, h⟩ := h
  have hl := h.mv.lt
  refine ⟨v, h.mv.below hb, h.hB, ?_, fun j hj => ⟨(h.hv j hj).1, ?_⟩, ?_⟩
  · rintro (e | e)
    · exact h.hx e
    · omega
  · have := h.mv.r.lt hj
    rintro (e | e)
    · exact (h.hv j hj).2 e
    · omega
  · rintro j (e | e)
    · exact Nat.lt_of_lt_of_le (h.lx j e) hb.size
    · omega
/-- What is apart from it may turn. -/
theorem MapIn.turned {k : Nat} (h : MapIn B x w b z l) (hb : w.grownBy w' (some k)) (hk : x k) : MapIn B x w' b z l := by
  obtain ⟨v, h⟩ := h
  have ne : ∀ j, ¬ x j → some j ≠ some k := fun j hj e => hj (by rw [Option.some.inj e]; exact hk)
  exact ⟨v, h.mv.of (hb.block b h.mv.lt (ne b h.hx)) fun j hj => hb.block j (h.mv.r.lt hj) (ne j (h.hv j hj).2), h.hB, h.hx, h.hv, fun k hk => Nat.lt_of_lt_of_le (h.lx k hk) hb.size⟩
end
end Go.Proofs.Ytoiiaacjpobaeaa
