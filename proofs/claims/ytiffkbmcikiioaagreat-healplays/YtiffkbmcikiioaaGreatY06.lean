/-
  A region that draws its order, whose operations read and whose callees may make memory: one walk in the text's order serves, where all worlds that come up are of one family.
  Plain facts on columns and their parity (no program is named here).
  Worlds that grew from a given one: a family for regions that draw their order.
  An own slice of numbers.
  The document's answers: Right, Takes, Bytes (polderref05).
-/
import Derived.Test.YtiffkbmcikiioaaGreatChecked
import Derived.WalkKit
import Derived.Deep.QuietTactic
import Derived.BigQuiet
import Derived.Test.YtiffkbmcikiioaaGreatY00
import Derived.Test.YtiffkbmcikiioaaGreatY04
import Derived.Handy

/- A region that draws its order, whose operations read and whose callees may make memory: one walk in the text's order serves, where all worlds that come up are of one family. -/
namespace Go.Proofs.YtiffkbmcikiioaaGreat
set_option maxRecDepth 100000
open Go.RowKit

theorem wp_region_family {P : Program} {X : Type} (f : X → World) {id : Nat} {Q : Exit → Act → World → Prop} {a : Act} {w : World} {l : List Oper} (hm : P.follows .mixedOrders = true) (hB : Region.lexB .any l.toArray = true)
    (h0 : ∃ x, { w with drawn := w.drawn + 1 } = f x)
    (h : wpQuiet P l.toArray (fun w' => ∃ x, w' = f x) (fun a' => ∀ w', (∃ x, w' = f x) → Q .normal a' w') l a) : (Code.region id l.toArray true).wp P Q a w :=
  wp_region_quiet (C := fun w' => ∃ x, w' = f x) hm hB h0 (by simpa using h)
end Go.Proofs.YtiffkbmcikiioaaGreat

/- Plain facts on columns and their parity (no program is named here). -/
namespace Go.Proofs.YtiffkbmcikiioaaGreat.M
set_option maxRecDepth 100000

/-- The byte at place j that columns come to. -/
def colx (l : List ByteArray) (j : Nat) : UInt8 := l.foldl (fun b s => b ^^^ s.data.toList.getD j 0) 0
/-- How long the first column is. -/
def wide (l : List ByteArray) : Nat := (l.headD ⟨#[]⟩).size
/-- Are columns even? -/
def evenL (l : List ByteArray) : Bool := l.all fun s => s.size == wide l
/-- Is there a parity? -/
def okL (l : List ByteArray) : Bool := !l.isEmpty && evenL l
/-- The bytes of a parity, n of them. -/
def parL (l : List ByteArray) (n : Nat) : List UInt8 := (List.range n).map (colx l)
/-- The parity. -/
def parB (l : List ByteArray) : ByteArray := ⟨(parL l (wide l)).toArray⟩
/-- What Make answers: the text, and the error. -/
def mkB (l : List ByteArray) : ByteArray := if okL l then parB l else ⟨#[]⟩
def mkE (l : List ByteArray) : Int := if okL l then 0 else 1
/-- Are all bytes zero? -/
def blankB (s : ByteArray) : Bool := s.data.toList.all (· == 0)

theorem sizeL (s : ByteArray) : s.size = s.data.toList.length := by rw [Array.length_toList]; rfl
theorem extL {s t : ByteArray} (h : s.data.toList = t.data.toList) : s = t := by
  apply ByteArray.ext; exact Array.ext' h

theorem foldx (l : List ByteArray) (j : Nat) : ∀ b : UInt8, l.foldl (fun b s => b ^^^ s.data.toList.getD j 0) b = b ^^^ colx l j := by
  unfold colx
  induction l with
  | nil => intro b; simp
  | cons s l ih => intro b; rw [List.foldl_cons, ih, List.foldl_cons, ih (0 ^^^ _), UInt8.zero_xor, UInt8.xor_assoc]
theorem colx_append (l m : List ByteArray) (j : Nat) : colx (l ++ m) j = colx l j ^^^ colx m j := by
  rw [colx, List.foldl_append, foldx]; rfl
theorem colx_one (s : ByteArray) (j : Nat) : colx [s] j = s.data.toList.getD j 0 := by simp [colx]
theorem colx_nil (j : Nat) : colx [] j = 0 := rfl
theorem colx_cons (s : ByteArray) (l : List ByteArray) (j : Nat) : colx (s :: l) j = s.data.toList.getD j 0 ^^^ colx l j := by
  rw [show s :: l = [s] ++ l from rfl, colx_append, colx_one]

theorem parL_length (l : List ByteArray) (n : Nat) : (parL l n).length = n := by simp [parL]
theorem parB_list (l : List ByteArray) : (parB l).data.toList = parL l (wide l) := by simp [parB]
theorem parB_size (l : List ByteArray) : (parB l).size = wide l := by rw [sizeL, parB_list, parL_length]
theorem parB_at (l : List ByteArray) (j : Nat) (h : j < wide l) : (parB l).data.toList.getD j 0 = colx l j := by
  rw [parB_list, parL, List.getD_eq_getElem?_getD, List.getElem?_map, List.getElem?_range h]; rfl
theorem parL_ext {l m : List ByteArray} {n : Nat} (h : ∀ j, j < n → colx l j = colx m j) : parL l n = parL m n := by
  apply List.map_congr_left
  intro j hj
  exact h j (List.mem_range.1 hj)
theorem parB_ext {l m : List ByteArray} (hn : wide l = wide m) (h : ∀ j, j < wide l → colx l j = colx m j) : parB l = parB m := by
  apply extL
  rw [parB_list, parB_list, ← hn]
  exact parL_ext h
/-- A parity is told by its bytes. -/
theorem parB_eq {l : List ByteArray} {s : ByteArray} (hn : s.size = wide l) (h : ∀ j, j < wide l → colx l j = s.data.toList.getD j 0) : parB l = s := by
  apply extL
  rw [parB_list]
  apply List.ext_getElem
  · rw [parL_length, ← hn, sizeL]
  · intro j h1 h2
    rw [parL_length] at h1
    have := h j h1
    rw [List.getD_eq_getElem?_getD, List.getElem?_eq_getElem h2] at this
    simp [parL, this]
/-- One column more. -/
theorem parL_more (l : List ByteArray) (s : ByteArray) : List.zipWith (· ^^^ ·) (parL l s.size) s.data.toList = parL (l ++ [s]) s.size := by
  apply List.ext_getElem
  · simp [parL_length]
  · intro j h1 h2
    rw [parL_length] at h2
    have hj : j < s.data.toList.length := by rw [← sizeL]; exact h2
    have hg : s.data.toList.getD j 0 = s.data.toList[j] := by rw [List.getD_eq_getElem?_getD, List.getElem?_eq_getElem hj]; rfl
    rw [List.getElem_zipWith]
    simp only [parL, List.getElem_map, List.getElem_range]
    rw [colx_append, colx_one, hg]
theorem parL_first (s : ByteArray) : parL [s] s.size = s.data.toList := by
  apply List.ext_getElem
  · rw [parL_length, sizeL]
  · intro j h1 h2
    simp only [parL, List.getElem_map, List.getElem_range]
    rw [colx_one, List.getD_eq_getElem?_getD, List.getElem?_eq_getElem h2]; rfl

theorem even_iff {l : List ByteArray} : evenL l = true ↔ ∀ s ∈ l, s.size = wide l := by
  simp [evenL]
theorem even_of {l : List ByteArray} {n : Nat} (h : ∀ s ∈ l, s.size = n) : evenL l = true := by
  rw [even_iff]
  intro s hs
  cases l with
  | nil => cases hs
  | cons t r =>
    rw [h s hs]
    exact (h t (List.mem_cons_self ..)).symm
theorem wide_of {l : List ByteArray} {n : Nat} (h : ∀ s ∈ l, s.size = n) (hl : l ≠ []) : wide l = n := by
  cases l with
  | nil => exact absurd rfl hl
  | cons t r => exact h t (List.mem_cons_self ..)
theorem ok_iff {l : List ByteArray} : okL l = true ↔ l ≠ [] ∧ evenL l = true := by
  cases l <;> simp [okL]
theorem ok_of {l : List ByteArray} {n : Nat} (h : ∀ s ∈ l, s.size = n) (hl : l ≠ []) : okL l = true := ok_iff.2 ⟨hl, even_of h⟩
theorem ok_size {l : List ByteArray} (h : okL l = true) : ∀ s ∈ l, s.size = wide l := even_iff.1 (ok_iff.1 h).2
theorem mk_ok {l : List ByteArray} (h : okL l = true) : mkB l = parB l ∧ mkE l = 0 := by simp [mkB, mkE, h]
theorem mk_no {l : List ByteArray} (h : okL l = false) : mkB l = ⟨#[]⟩ ∧ mkE l = 1 := by simp [mkB, mkE, h]

theorem par_small {l : List ByteArray} {N : Nat} (h : okL l = true) (hs : ∀ s ∈ l, s.size ≤ N) : (parB l).size ≤ N := by
  rw [parB_size]
  cases l with
  | nil => exact absurd rfl (ok_iff.1 h).1
  | cons s r => exact hs s (List.mem_cons_self ..)
/-- Columns, and their parity behind them. -/
theorem with_par {l : List ByteArray} (h : okL l = true) : okL (l ++ [parB l]) = true ∧ wide (l ++ [parB l]) = wide l ∧ ∀ j, j < wide l → colx (l ++ [parB l]) j = 0 := by
  have hs : ∀ s ∈ l ++ [parB l], s.size = wide l := by
    intro s hm
    rcases List.mem_append.1 hm with h1 | h1
    · exact ok_size h s h1
    · rw [List.mem_singleton.1 h1, parB_size]
  refine ⟨ok_of hs (by simp), wide_of hs (by simp), fun j hj => ?_⟩
  rw [colx_append, colx_one, parB_at l j hj, UInt8.xor_self]
theorem blank_of {l : List ByteArray} (h : ∀ j, j < wide l → colx l j = 0) : blankB (parB l) = true := by
  rw [blankB, parB_list, List.all_eq_true]
  intro b hb
  obtain ⟨j, hj, rfl⟩ := List.mem_map.1 hb
  rw [h j (List.mem_range.1 hj)]; rfl
theorem par_single (s : ByteArray) : parB [s] = s := parB_eq rfl fun j _ => colx_one s j
/-- Which is left out of columns that come to zero is what the others come to. -/
theorem colx_erase (l : List ByteArray) (k : Nat) (h : k < l.length) (j : Nat) : colx (l.eraseIdx k) j = colx l j ^^^ (l[k]).data.toList.getD j 0 := by
  induction l generalizing k with
  | nil => exact absurd h (Nat.not_lt_zero _)
  | cons s l ih =>
    cases k with
    | zero =>
      rw [List.eraseIdx_zero, List.tail_cons, colx_cons, List.getElem_cons_zero, UInt8.xor_comm (s.data.toList.getD j 0), UInt8.xor_assoc, UInt8.xor_self, UInt8.xor_zero]
    | succ k =>
      rw [List.eraseIdx_cons_succ, colx_cons, ih k (by simpa using h), colx_cons, List.getElem_cons_succ, UInt8.xor_assoc]
theorem again_par {l : List ByteArray} (h : okL l = true) (k : Nat) (hk : k < (l ++ [parB l]).length) : okL ((l ++ [parB l]).eraseIdx k) = true ∧ parB ((l ++ [parB l]).eraseIdx k) = (l ++ [parB l])[k] := by
  obtain ⟨h1, h2, h3⟩ := with_par h
  have hs := ok_size h1
  rw [h2] at hs
  have hs' : ∀ s ∈ (l ++ [parB l]).eraseIdx k, s.size = wide l := fun s hm => hs s (List.mem_of_mem_eraseIdx hm)
  have hl : (l ++ [parB l]).eraseIdx k ≠ [] := by
    intro e
    have h4 := congrArg List.length e
    have h5 : 0 < l.length := List.length_pos_iff.2 (ok_iff.1 h).1
    rw [List.length_eraseIdx_of_lt hk, List.length_append, List.length_nil] at h4
    simp only [List.length_cons, List.length_nil] at h4
    omega
  refine ⟨ok_of hs' hl, parB_eq ?_ fun j hj => ?_⟩
  · rw [wide_of hs' hl]; exact hs _ (List.getElem_mem _)
  · rw [wide_of hs' hl] at hj
    rw [colx_erase _ _ hk, h3 j hj, UInt8.zero_xor]
theorem set_erase {α : Type} (l : List α) (k : Nat) (a : α) : (l.set k a).eraseIdx k = l.eraseIdx k := by
  induction l generalizing k with
  | nil => simp
  | cons s l ih => cases k with
    | zero => simp
    | succ k => simp [ih]
/-- A column changed. -/
theorem colx_set (l : List ByteArray) (k : Nat) (h : k < l.length) (s : ByteArray) (j : Nat) : colx (l.set k s) j = colx l j ^^^ (l[k]).data.toList.getD j 0 ^^^ s.data.toList.getD j 0 := by
  have h1 := colx_erase (l.set k s) k (by simpa using h) j
  rw [set_erase, colx_erase l k h, List.getElem_set_self] at h1
  rw [h1, UInt8.xor_assoc, UInt8.xor_self, UInt8.xor_zero]
/-- Two columns changed to each other's. -/
theorem colx_swap (l : List ByteArray) (x y : Nat) (hx : x < l.length) (hy : y < l.length) (j : Nat) : colx ((l.set x l[y]).set y l[x]) j = colx l j := by
  rw [colx_set _ y (by simpa using hy), colx_set l x hx]
  by_cases e : x = y
  · subst e
    rw [List.getElem_set_self]
    simp only [UInt8.xor_assoc, UInt8.xor_self, UInt8.xor_zero]
  · rw [List.getElem_set_ne e]
    generalize (l[x]).data.toList.getD j 0 = a
    generalize (l[y]).data.toList.getD j 0 = b
    rw [UInt8.xor_assoc (colx l j ^^^ a), UInt8.xor_self, UInt8.xor_zero, UInt8.xor_assoc, UInt8.xor_self, UInt8.xor_zero]
theorem swap_mem {α : Type} (l : List α) (x y : Nat) (hx : x < l.length) (hy : y < l.length) : ∀ s ∈ (l.set x l[y]).set y l[x], s ∈ l := by
  intro s hm
  rcases List.mem_or_eq_of_mem_set hm with h1 | h1
  · rcases List.mem_or_eq_of_mem_set h1 with h2 | h2
    · exact h2
    · rw [h2]; exact List.getElem_mem _
  · rw [h1]; exact List.getElem_mem _
theorem swap_par {l : List ByteArray} (h : okL l = true) (x y : Nat) (hx : x < l.length) (hy : y < l.length) : okL ((l.set x l[y]).set y l[x]) = true ∧ parB ((l.set x l[y]).set y l[x]) = parB l := by
  have hs := ok_size h
  have hs' : ∀ s ∈ (l.set x l[y]).set y l[x], s.size = wide l := by
    intro s hm
    rcases List.mem_or_eq_of_mem_set hm with h1 | h1
    · rcases List.mem_or_eq_of_mem_set h1 with h2 | h2
      · exact hs s h2
      · rw [h2]; exact hs _ (List.getElem_mem _)
    · rw [h1]; exact hs _ (List.getElem_mem _)
  have hl : (l.set x l[y]).set y l[x] ≠ [] := by
    intro e
    have := congrArg List.length e
    simp at this
    exact (ok_iff.1 h).1 this
  refine ⟨ok_of hs' hl, parB_ext (wide_of hs' hl) fun j _ => colx_swap l x y hx hy j⟩
theorem twice_par {l : List ByteArray} (h : okL l = true) : okL (l ++ l) = true ∧ blankB (parB (l ++ l)) = true ∧ (parB (l ++ l)).size = (parB l).size := by
  have hs := ok_size h
  have hs' : ∀ s ∈ l ++ l, s.size = wide l := fun s hm => by rcases List.mem_append.1 hm with h1 | h1 <;> exact hs s h1
  have hl : l ++ l ≠ [] := by simpa using (ok_iff.1 h).1
  refine ⟨ok_of hs' hl, blank_of fun j _ => by rw [colx_append, UInt8.xor_self], ?_⟩
  rw [parB_size, parB_size, wide_of hs' hl]
/-- n zero bytes. -/
def zeroB (n : Nat) : ByteArray := ⟨(List.replicate n (0 : UInt8)).toArray⟩
theorem sums_par {l m : List ByteArray} (hl : l ≠ []) (hm : m ≠ []) (h : okL (l ++ m) = true) :
    okL l = true ∧ okL m = true ∧ okL [parB l, parB m] = true ∧ parB [parB l, parB m] = parB (l ++ m) ∧ okL (l ++ m ++ [zeroB (parB (l ++ m)).size]) = true ∧ parB (l ++ m ++ [zeroB (parB (l ++ m)).size]) = parB (l ++ m) := by
  have hs := ok_size h
  generalize hn : wide (l ++ m) = n at hs
  have hsl : ∀ s ∈ l, s.size = n := fun s hm => hs s (List.mem_append_left _ hm)
  have hsm : ∀ s ∈ m, s.size = n := fun s hm => hs s (List.mem_append_right _ hm)
  have hwl := wide_of hsl hl
  have hwm := wide_of hsm hm
  have hsp : ∀ s ∈ [parB l, parB m], s.size = n := by
    intro s hm
    simp only [List.mem_cons, List.not_mem_nil, or_false] at hm
    rcases hm with rfl | rfl
    · rw [parB_size, hwl]
    · rw [parB_size, hwm]
  have hz : (zeroB (parB (l ++ m)).size).size = n := by
    rw [sizeL]; simp [zeroB, parB_size, hn]
  have hsz : ∀ s ∈ l ++ m ++ [zeroB (parB (l ++ m)).size], s.size = n := by
    intro s hm
    rcases List.mem_append.1 hm with h1 | h1
    · exact hs s h1
    · rw [List.mem_singleton.1 h1, hz]
  have hwp := wide_of hsp (by simp)
  have hwz := wide_of hsz (by simp)
  refine ⟨ok_of hsl hl, ok_of hsm hm, ok_of hsp (by simp), parB_ext (by rw [hwp, hn]) fun j hj => ?_, ok_of hsz (by simp), parB_ext (by rw [hwz, hn]) fun j hj => ?_⟩
  · rw [hwp] at hj
    rw [show [parB l, parB m] = [parB l] ++ [parB m] from rfl, colx_append, colx_one, colx_one, parB_at l j (by rw [hwl]; exact hj), parB_at m j (by rw [hwm]; exact hj), colx_append]
  · rw [colx_append (l ++ m), colx_one]
    have : (zeroB (parB (l ++ m)).size).data.toList.getD j 0 = 0 := by
      simp [zeroB, List.getD_eq_getElem?_getD, List.getElem?_replicate]
      split <;> rfl
    rw [this, UInt8.xor_zero]
end Go.Proofs.YtiffkbmcikiioaaGreat.M

/- Worlds that grew from a given one: a family for regions that draw their order. -/
namespace Go.Proofs.YtiffkbmcikiioaaGreat
set_option maxRecDepth 100000
open Go.RowKit

structure Ext (W : World) where
  v : World
  h : Below W.heap.size W v
theorem Ext.cell {W : World} (q : Ext W) {b i : Nat} {x : Value} (h : W.cell? ⟨b, i, none⟩ = some x) (hb : b < W.heap.size) : q.v.cell? ⟨b, i, none⟩ = some x := by
  rw [q.h.cell (p := ⟨b, i, none⟩) hb]; exact h
theorem Ext.some (W : World) : Nonempty (Ext W) := ⟨⟨W, Below.refl _ _⟩⟩
theorem Ext.calls {W : World} {f : FuncId} {args : Array Value} {x : Value} (h : ∀ w, Below W.heap.size W w → Calls Tryz.prog f args w fun e w' => e = .returned x ∧ Below w.heap.size w w') (q : Ext W) :
    Calls Tryz.prog f args q.v fun e w' => e = .returned x ∧ ∃ q' : Ext W, w' = q'.v :=
  (h q.v q.h).mono fun _ w' ⟨h1, h2⟩ => ⟨h1, ⟨w', next q.h h2⟩, rfl⟩
end Go.Proofs.YtiffkbmcikiioaaGreat

/- An own slice of numbers. -/
namespace Go.Proofs.YtiffkbmcikiioaaGreat
set_option maxRecDepth 100000
open Go.RowKit

/-- The slice v is the call's own, from block B on, and it is the numbers zs. -/
def OwnI (B : Nat) (w : World) (v : Value) (zs : List Int) : Prop := w.ownsRow B 3 1 v zs.length (zs.map (Value.int .i64))
theorem OwnI.nil (B : Nat) (w : World) : OwnI B w (.slice none 0 0) [] := World.ownsRow_nil _ _ _ _
theorem OwnI.below {w w' : World} {B : Nat} {v : Value} {l : List Int} (h : OwnI B w v l) (hb : Below w.heap.size w w') : OwnI B w' v l := by
  refine ⟨h.1, ?_⟩
  rcases h.2 with hn | ⟨g, cap, cur, rfl, hB, hg, rest⟩
  · exact .inl hn
  · exact .inr ⟨g, cap, cur, rfl, hB, by rw [hb.block g (Array.getElem?_eq_some_iff.1 hg).1]; exact hg, rest⟩
theorem OwnI.lower {w : World} {B B' : Nat} {v : Value} {l : List Int} (h : OwnI B w v l) (hB : B' ≤ B) : OwnI B' w v l := by
  refine ⟨h.1, ?_⟩
  rcases h.2 with hn | ⟨g, cap, cur, rfl, hB', hg, rest⟩
  · exact .inl hn
  · exact .inr ⟨g, cap, cur, rfl, Nat.le_trans hB hB', hg, rest⟩
/-- The slice v is the numbers zs. -/
def IntsV (w : World) (v : Value) (zs : List Int) : Prop :=
  ∃ a n c, v = .slice a n c ∧ zs.length = n ∧ n ≤ c ∧ ∀ j (h : j < zs.length), ∃ g, a = some ⟨g, 0, none⟩ ∧ g < w.heap.size ∧ w.cell? ⟨g, j, none⟩ = some (.int .i64 zs[j])
theorem OwnI.v {w : World} {B : Nat} {v : Value} {zs : List Int} (h : OwnI B w v zs) : IntsV w v zs := by
  have hcells := fun g hg => World.ownsRow.cells (g := g) h hg
  rcases h.2 with ⟨rfl, h0⟩ | ⟨g, cap, cur, rfl, hB, hb, hnc, _⟩
  · exact ⟨none, 0, 0, rfl, h0, Nat.le_refl _, fun j hj => absurd hj (by omega)⟩
  · refine ⟨_, _, _, rfl, rfl, hnc, fun j hj => ⟨g, rfl, (Array.getElem?_eq_some_iff.1 hb).1, ?_⟩⟩
    have e := hcells g rfl j (.int .i64 zs[j]) (by rw [List.getElem?_map, List.getElem?_eq_getElem hj]; rfl)
    rwa [Go.WideShapes.add_plain, Nat.zero_add] at e
theorem IntsV.next {w w' : World} {v : Value} {zs : List Int} (h : IntsV w v zs) (k : Below w.heap.size w w') : IntsV w' v zs := by
  obtain ⟨a, n, c, rfl, hn, hc, hj⟩ := h
  refine ⟨a, n, c, rfl, hn, hc, fun j h => ?_⟩
  obtain ⟨g, ha, hg, hcell⟩ := hj j h
  exact ⟨g, ha, Nat.lt_of_lt_of_le hg k.size, by rw [k.cell (p := ⟨g, j, none⟩) hg]; exact hcell⟩
theorem infoI : ∃ i, Tryz.prog.info? 3 = some i ∧ i.zero = some (.int .i64 0) ∧ i.size = 1 ∧ i.bytes = 8 := info_parts (by kernel_rfl)
/-- append(v, y). -/
theorem wpList_append_int {ops : Array Oper} {rest : List Oper} {o : Oper} {a : Act} {Q : Exit → Act → World → Prop} (w : World) (hgd : o.guard = none) (s x : Operand)
    (ho : o.op = .call { callee := .builtin .append, args := #[s, x], argTypes := #[71, 71] }) (B : Nat) (v : Value) (l : List Int) (y : Int) (g c' : Nat) (hs : a.eval s = v) (hx : a.eval x = .slice (some ⟨g, 0, none⟩) 1 c')
    (hv : OwnI B w v l) (hc : w.cell? ⟨g, 0, none⟩ = some (.int .i64 y)) (hB : B ≤ w.heap.size) (hN : l.length ≤ 100000)
    (h : ∀ v' w', OwnI B w' v' (l ++ [y]) → Below B w w' → w.heap.size ≤ w'.heap.size → wpList Tryz.prog ops Q rest (a.put o.dst v') w') : wpList Tryz.prog ops Q (o :: rest) a w := by
  obtain ⟨i, hi, hz, hsz, hb⟩ := infoI
  refine wpList_append_own_at w hgd s x _ ho B 3 i _ 1 8 Tryz.underlying71 hi hz hsz hb rfl (by decide) v l.length (l.map (Value.int .i64)) hs hv ⟨g, 0, none⟩ 1 c' [.int .i64 y] hx rfl (fun j u hj => ?_) (fun u hu => ?_) (by unfold maxLen; omega) (by omega) hB fun v' w' h1 h2 _ _ => ?_
  · have hlt : j < 1 := (List.getElem?_eq_some_iff.1 hj).1
    obtain rfl : j = 0 := by omega
    rw [Go.WideShapes.add_plain, ← hj]
    exact hc
  · simp at hu; subst hu; rfl
  · refine h v' w' ?_ ((Below.refl B w).grown h2 hB fun k hk => (World.ownsRow.lt hv k hk).1) h2.size
    unfold OwnI
    rw [List.length_append, List.map_append]
    exact h1
end Go.Proofs.YtiffkbmcikiioaaGreat

/- The document's answers: Right, Takes, Bytes (polderref05). -/
namespace Go.Proofs.YtiffkbmcikiioaaGreat
set_option maxRecDepth 100000
open Go.RowKit

theorem Held.at2 {w0 w : World} {b : Nat} {g o : Nat} {n c : Nat} {s : Int} {l : List (Int × Int)} (h : Held w0 w b (some ⟨g, o, none⟩) n c s l) {k : Nat} (hk : k < l.length) {x : Int × Int} (hx : l[k] = x) :
    w.cell? ⟨g, o + k * 2, none⟩ = some (.int .i64 x.1) ∧ w.cell? ⟨g, o + k * 2 + 1, none⟩ = some (.int .i64 x.2) := by
  obtain ⟨g', o', ha, _, h1, h2⟩ := h.at_ hk hx
  cases ha
  exact ⟨h1, h2⟩
theorem Held.bounds {w0 w : World} {b : Nat} {a : Option Addr} {n c : Nat} {s : Int} {l : List (Int × Int)} (h : Held w0 w b a n c s l) {k : Nat} (hk : k < l.length) {x : Int × Int} (hx : l[k] = x) :
    -9223372036854775808 ≤ x.1 ∧ x.1 ≤ 9223372036854775807 ∧ -9223372036854775808 ≤ x.2 ∧ x.2 ≤ 9223372036854775807 := by
  obtain ⟨a', n', c', hv, hg, _⟩ := h.m
  cases hv
  obtain ⟨g, o, ha, hG⟩ := hg.2.2 k hk
  subst hx
  exact ⟨hG.k0, hG.k1, hG.w0, hG.w1⟩

end Go.Proofs.YtiffkbmcikiioaaGreat
