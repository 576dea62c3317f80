/-
  Columns: a list of them, in memory; a measure and a place in boxes.
-/
import Derived.Test.YthpifplflhhkiaaGh
import Derived.Laws.AppendOwn
import Derived.Laws.OwnMore
import Derived.IntWalk
namespace Go.Proofs.Ythpifplflhhkiaa
set_option maxRecDepth 100000
open Go.RowKit

/-- A column. -/
structure C where
  dev : Int
  at_ : Int
  par : Bool
  row : Int
theorem C.ext' {a b : C} (h1 : a.dev = b.dev) (h2 : a.at_ = b.at_) (h3 : a.par = b.par) (h4 : a.row = b.row) : a = b := by
  cases a; cases b; simp at h1 h2 h3 h4; subst h1 h2 h3 h4; rfl
def C.cells (c : C) : List Value := [.int .i64 c.dev, .int .i64 c.at_, .bool c.par, .int .i64 c.row]
def C.val (c : C) : Value := .agg #[.int .i64 c.dev, .int .i64 c.at_, .bool c.par, .int .i64 c.row]
def flatC (l : List C) : List Value := l.flatMap C.cells
theorem flatC_len (l : List C) : (flatC l).length = l.length * 4 := by
  induction l with
  | nil => rfl
  | cons c r ih => simp only [flatC, List.flatMap_cons, List.length_append, List.length_cons] at ih ⊢; rw [ih]; simp [C.cells]; omega
theorem flatC_app (l m : List C) : flatC (l ++ m) = flatC l ++ flatC m := by simp [flatC]
theorem flatC_at (l : List C) (i : Nat) (hi : i < l.length) (j : Nat) (hj : j < 4) : (flatC l)[i * 4 + j]? = (C.cells l[i])[j]? := by
  induction l generalizing i with
  | nil => simp at hi
  | cons s r ih =>
    cases i with
    | zero =>
      simp only [flatC, List.flatMap_cons, List.getElem_cons_zero, Nat.zero_mul, Nat.zero_add]
      rw [List.getElem?_append_left (by simp [C.cells]; omega)]
    | succ i =>
      simp only [flatC, List.flatMap_cons, List.getElem_cons_succ]
      rw [List.getElem?_append_right (by simp [C.cells]; omega), show (C.cells s).length = 4 from rfl, show (i + 1) * 4 + j - 4 = i * 4 + j by omega]
      exact ih i (by simpa using hi)
theorem flatC_one (l : List C) : ∀ v ∈ flatC l, v.oneCell' = true := by
  intro v hv
  obtain ⟨s, _, h⟩ := List.mem_flatMap.1 hv
  simp [C.cells] at h
  rcases h with rfl | rfl | rfl | rfl <;> rfl

/-- A column's four cells. -/
structure IsC (w : World) (g o : Nat) (c : C) : Prop where
  c0 : w.cell? ⟨g, o, none⟩ = some (.int .i64 c.dev)
  c1 : w.cell? ⟨g, o + 1, none⟩ = some (.int .i64 c.at_)
  c2 : w.cell? ⟨g, o + 2, none⟩ = some (.bool c.par)
  c3 : w.cell? ⟨g, o + 3, none⟩ = some (.int .i64 c.row)
theorem IsC.of {w : World} {g o : Nat} {c : C} (h : ∀ j, j < 4 → w.cell? ⟨g, o + j, none⟩ = (C.cells c)[j]?) : IsC w g o c :=
  ⟨h 0 (by omega), h 1 (by omega), h 2 (by omega), h 3 (by omega)⟩
theorem IsC.get {w : World} {g o : Nat} {c : C} (h : IsC w g o c) (j : Nat) (hj : j < 4) : w.cell? ⟨g, o + j, none⟩ = (C.cells c)[j]? := by
  match j, hj with
  | 0, _ => exact h.c0
  | 1, _ => exact h.c1
  | 2, _ => exact h.c2
  | 3, _ => exact h.c3
theorem IsC.below {w w' : World} {B g o : Nat} {c : C} (h : IsC w g o c) (hg : g < B) (hb : Below B w w') : IsC w' g o c :=
  IsC.of fun j hj => by rw [hb.cell (p := ⟨g, o + j, none⟩) hg]; exact h.get j hj

/-- Columns in block g. -/
structure ColsAt (w : World) (g : Nat) (l : List C) : Prop where
  lt : g < w.heap.size
  at_ : ∀ j (h : j < l.length), IsC w g (j * 4) l[j]
theorem ColsAt.next {w w' : World} {g : Nat} {l : List C} (h : ColsAt w g l) (k : Below w.heap.size w w') : ColsAt w' g l :=
  ⟨Nat.lt_of_lt_of_le h.lt k.size, fun j hj => (h.at_ j hj).below h.lt k⟩

/-- The slice v is the call's own, from block B on, and it is the columns l. -/
def OwnC (B : Nat) (w : World) (v : Value) (l : List C) : Prop := w.ownsRow B 107 4 v l.length (flatC l)
theorem OwnC.nil (B : Nat) (w : World) : OwnC B w (.slice none 0 0) [] := World.ownsRow_nil _ _ _ _
theorem OwnC.below {w w' : World} {B : Nat} {v : Value} {l : List C} (h : OwnC B w v l) (hb : Below w.heap.size w w') : OwnC B w' v l := by
  refine ⟨h.1, ?_⟩
  rcases h.2 with hn | ⟨g, cap, cur, rfl, hB, hg, rest⟩
  · exact .inl hn
  · exact .inr ⟨g, cap, cur, rfl, hB, by rw [hb.block g (Array.getElem?_eq_some_iff.1 hg).1]; exact hg, rest⟩
theorem OwnC.lower {w : World} {B B' : Nat} {v : Value} {l : List C} (h : OwnC B w v l) (hB : B' ≤ B) : OwnC B' w v l := by
  refine ⟨h.1, ?_⟩
  rcases h.2 with hn | ⟨g, cap, cur, rfl, hB', hg, rest⟩
  · exact .inl hn
  · exact .inr ⟨g, cap, cur, rfl, Nat.le_trans hB hB', hg, rest⟩
/-- Where an own slice lies. -/
theorem OwnC.some {w : World} {B : Nat} {v : Value} {l : List C} (h : OwnC B w v l) (hl : 0 < l.length) :
    ∃ g c, v = .slice (some ⟨g, 0, none⟩) l.length c ∧ l.length ≤ c ∧ B ≤ g ∧ ColsAt w g l := by
  have hcells := fun g hg => World.ownsRow.cells (g := g) h hg
  rcases h.2 with ⟨_, h0⟩ | ⟨g, cap, cur, rfl, hB, hb, hnc, _⟩
  · omega
  · refine ⟨g, cap, rfl, hnc, hB, (Array.getElem?_eq_some_iff.1 hb).1, fun j hj => IsC.of fun i hi => ?_⟩
    have hx := flatC_at l j hj i hi
    have hlt : i < (C.cells l[j]).length := hi
    rw [List.getElem?_eq_getElem hlt] at hx ⊢
    have e := hcells g rfl (j * 4 + i) _ hx
    rwa [Go.WideShapes.add_plain, Nat.zero_add] at e
theorem OwnC.none {w : World} {B : Nat} {v : Value} {l : List C} (h : OwnC B w v l) : ∃ a c, v = .slice a l.length c := by
  rcases h.2 with ⟨rfl, h0⟩ | ⟨g, cap, cur, rfl, hB, hb, hnc, _⟩
  · exact ⟨_, _, by rw [h0]⟩
  · exact ⟨_, _, rfl⟩

theorem info_col : ∃ i, Try.prog.info? 107 = some i ∧ i.zero = some (.agg #[.int .i64 0, .int .i64 0, .bool false, .int .i64 0]) ∧ i.size = 4 ∧ i.bytes = 32 := info_parts (by kernel_rfl)

/-- append(v, c). -/
theorem wpList_append_col {ops : Array Oper} {rest : List Oper} {o : Oper} {a : Act} {Q : Exit → Act → World → Prop} (w : World) (hgd : o.guard = none) (s x : Operand)
    (ho : o.op = .call { callee := .builtin .append, args := #[s, x], argTypes := #[78, 78] }) (B : Nat) (v : Value) (l : List C) (c : C) (g c' : Nat) (hs : a.eval s = v) (hx : a.eval x = .slice (some ⟨g, 0, none⟩) 1 c')
    (hv : OwnC B w v l) (hc : IsC w g 0 c) (hB : B ≤ w.heap.size) (hN : l.length ≤ 100000)
    (h : ∀ v' w', OwnC B w' v' (l ++ [c]) → Below B w w' → w.heap.size ≤ w'.heap.size → wpList Try.prog ops Q rest (a.put o.dst v') w') : wpList Try.prog ops Q (o :: rest) a w := by
  obtain ⟨i, hi, hz, hsz, hb⟩ := info_col
  refine wpList_append_own_at w hgd s x _ ho B 107 i _ 4 32 Try.underlying78 hi hz hsz hb rfl (by decide) v l.length (flatC l) hs hv ⟨g, 0, none⟩ 1 c' (C.cells c) hx rfl (fun j u hj => ?_) (fun u hu => ?_) (by unfold maxLen; omega) (by omega) hB fun v' w' h1 h2 _ _ => ?_
  · have hlt : j < 4 := (List.getElem?_eq_some_iff.1 hj).1
    rw [Go.WideShapes.add_plain, ← hj]
    exact hc.get j hlt
  · exact flatC_one [c] u (by simpa [flatC] using hu)
  · refine h v' w' ?_ ((Below.refl B w).grown h2 hB fun k hk => (World.ownsRow.lt hv k hk).1) h2.size
    unfold OwnC
    rw [List.length_append, flatC_app]
    have e : flatC [c] = C.cells c := by simp [flatC]
    rw [e]
    exact h1

/-- A measure boxed in block b, and a place in block p, in a world that grew from w0. -/
structure HeldP (w0 w : World) (b p : Nat) (a : Option Addr) (n c : Nat) (s : Int) (l : List (Int × Int)) (k t : Int) : Prop where
  h : Held w0 w b a n c s l
  p0 : w.cell? ⟨p, 0, none⟩ = some (.int .i64 k)
  p1 : w.cell? ⟨p, 1, none⟩ = some (.int .i64 t)
  plt : p < w.heap.size
theorem HeldP.next {w0 w w' : World} {b p : Nat} {a : Option Addr} {n c : Nat} {s : Int} {l : List (Int × Int)} {k t : Int} (h : HeldP w0 w b p a n c s l k t) (kb : Below w.heap.size w w') : HeldP w0 w' b p a n c s l k t :=
  ⟨h.h.next kb, by rw [kb.cell (p := ⟨p, 0, none⟩) h.plt]; exact h.p0, by rw [kb.cell (p := ⟨p, 1, none⟩) h.plt]; exact h.p1, Nat.lt_of_lt_of_le h.plt kb.size⟩
theorem HeldP.start {w : World} {a : Option Addr} {n c : Nat} {s : Int} {l : List (Int × Int)} (k t : Int) (h : Meas w (.agg #[.slice a n c, .int .i64 s]) l s) :
    HeldP w ((w.alloc (.cells #[.slice a n c, .int .i64 s] 41)).alloc (.cells #[.int .i64 k, .int .i64 t] 23)) w.heap.size (w.heap.size + 1) a n c s l k t :=
  ⟨(Held.start h).next (boxed _ _), by simp, by simp, by simp⟩
end Go.Proofs.Ythpifplflhhkiaa
