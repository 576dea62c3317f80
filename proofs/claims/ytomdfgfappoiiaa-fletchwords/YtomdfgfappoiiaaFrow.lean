/-
  Bytes in memory: a row of them, made of a text, read as a text, laid anew.
-/
import Derived.Test.YtomdfgfappoiiaaFkeep
import Derived.Laws.IdiomStrings
import Derived.Laws.IdiomCopy
namespace Go.Proofs.Ytomdfgfappoiiaa
open Go.RowKit M

/-- Block g begins with the bytes l, and they may be written. -/
structure RowB (w : World) (g : Nat) (l : List UInt8) : Prop where
  c : ∀ j (h : j < l.length), w.cell? ⟨g, j, none⟩ = some (.int .u8 (l[j].toNat : Int))
  f : ∀ j, j < l.length → w.frozen? ⟨g, j, none⟩ = false
  lt : g < w.heap.size
theorem RowB.below {w w' : World} {g B : Nat} {l : List UInt8} (h : RowB w g l) (hb : Below B w w') (hB : g < B) : RowB w' g l :=
  ⟨fun j hj => by rw [hb.cell (p := ⟨g, j, none⟩) hB]; exact h.c j hj, fun j hj => by rw [hb.frozen (p := ⟨g, j, none⟩) hB]; exact h.f j hj, Nat.lt_of_lt_of_le h.lt hb.size⟩
/-- The world behind []byte(p). -/
def bytesW (w : World) (p : ByteArray) : World :=
  w.drew.alloc (.cells (bytesRow p (grownCap w p.size 0 5)) 5 ((bytesRow p (grownCap w p.size 0 5)).size, (bytesRow p (grownCap w p.size 0 5)).size + 1))
theorem conv_to (w : World) (p : ByteArray) : (convert 9 25 (.string p)).run Try.prog w = .ok (.slice (some ⟨w.heap.size, 0, none⟩) p.size (grownCap w p.size 0 5)) (bytesW w p) :=
  run_bytes_of_string w 9 25 5 p Try.underlying9 Try.underlying25 Try.underlying5
theorem bytesW_below (w : World) (p : ByteArray) : Below w.heap.size w (bytesW w p) := ((Below.refl _ w).drew).alloc (Nat.le_refl _) _
theorem bytesW_row (w : World) (p : ByteArray) : RowB (bytesW w p) w.heap.size p.data.toList := by
  have hs := size_list p
  have hh : (bytesW w p).heap[w.heap.size]? = some (.cells (bytesRow p (grownCap w p.size 0 5)) 5 ((bytesRow p (grownCap w p.size 0 5)).size, (bytesRow p (grownCap w p.size 0 5)).size + 1)) := World.alloc_heap_new w.drew _
  have hz : p.data.toList.length ≤ (bytesRow p (grownCap w p.size 0 5)).size := by
    simp [bytesRow]
  refine ⟨fun j hj => ?_, fun j hj => ?_, by show w.heap.size < _; simp [bytesW]⟩
  · have hj2 : j < p.data.size := by simpa using hj
    have hb : (bytesRow p (grownCap w p.size 0 5))[j]? = some (.int .u8 (p.data[j].toNat : Int)) := by
      rw [bytesRow, Array.getElem?_append_left (by simpa using hj2), Array.getElem?_map, Array.getElem?_eq_getElem hj2]
      rfl
    simp [World.cell?, hh, hb]
  · simp [World.frozen?, hh]
    omega
/-- string(b[o:o+n]). -/
theorem conv_from (w : World) (g : Nat) (l : List UInt8) (h : RowB w g l) (o n cap : Nat) (hn : o + n ≤ l.length) :
    (convert 25 9 (.slice (some ⟨g, o, none⟩) n cap)).run Try.prog w = .ok (.string ⟨((l.drop o).take n).toArray⟩) w := by
  have hl : ((l.drop o).take n).length = n := by rw [List.length_take, List.length_drop]; omega
  have := run_convert_bytes_back (P := Try.prog) w 25 9 5 ⟨g, o, none⟩ cap ((l.drop o).take n) Try.underlying25 Try.underlying5 Try.underlying9 (fun j hj => by
    rw [show Addr.add ⟨g, o, none⟩ j = ⟨g, o + j, none⟩ by unfold Addr.add; split <;> simp_all]
    rw [h.c (o + j) (by rw [hl] at hj; omega)]
    simp)
  rw [hl] at this
  exact this
theorem RowB.set {w : World} {g : Nat} {l : List UInt8} (h : RowB w g l) (j : Nat) (hj : j < l.length) (b : UInt8) : RowB (w.setCell ⟨g, j, none⟩ (.int .u8 (b.toNat : Int))) g (l.set j b) := by
  refine ⟨fun k hk => ?_, fun k hk => ?_, by simp [World.setCell]; exact h.lt⟩
  · rw [List.length_set] at hk
    by_cases e : j = k
    · subst e
      rw [World.cell?_setCell_same _ _ _ (h.c j hj)]
      simp
    · rw [World.cell?_setCell_other _ _ _ _ (by intro h; apply e; cases h; rfl), h.c k hk, List.getElem_set_ne e]
  · rw [List.length_set] at hk
    rw [World.frozen?_setCell]; exact h.f k hk
theorem HoldsQ.setRow {w : World} {d g j : Nat} {q : Q} (h : HoldsQ w d q) (hne : d ≠ g) (v : Value) : HoldsQ (w.setCell ⟨g, j, none⟩ v) d q := by
  obtain ⟨h0, h1, h2, h3, f0, f1, f2, f3⟩ := h
  have hne' : g ≠ d := fun e => hne e.symm
  refine ⟨?_, ?_, ?_, ?_, ?_, ?_, ?_, ?_⟩
  all_goals simp [World.cell?_setCell_other, h0, h1, h2, h3, f0, f1, f2, f3]
/-- Bytes as cells. -/
def cellsB (c : List UInt8) : List Value := c.map fun b => Value.int .u8 (b.toNat : Int)
theorem setCells_other (g k : Nat) (hne : k ≠ g) : ∀ (vs : List Value) (o : Nat) (w : World), (w.setCells g o vs).heap[k]? = w.heap[k]?
  | [], _, _ => rfl
  | v :: vs, o, w => by
    show ((w.setCell ⟨g, o, none⟩ v).setCells g (o + 1) vs).heap[k]? = _
    rw [setCells_other g k hne vs, Below.heap_setCell _ _ _ _ hne]
theorem setCells_size (g : Nat) : ∀ (vs : List Value) (o : Nat) (w : World), (w.setCells g o vs).heap.size = w.heap.size
  | [], _, _ => rfl
  | v :: vs, o, w => by
    show ((w.setCell ⟨g, o, none⟩ v).setCells g (o + 1) vs).heap.size = _
    rw [setCells_size g vs]; simp [World.setCell]
theorem below_setCells (g B : Nat) (hB : B ≤ g) : ∀ (vs : List Value) (o : Nat) (w : World), Below B w (w.setCells g o vs)
  | [], _, _ => Below.refl _ _
  | v :: vs, o, w => ((Below.refl B w).setCell (p := ⟨g, o, none⟩) hB v).trans (below_setCells g B hB vs (o + 1) (w.setCell ⟨g, o, none⟩ v))
theorem RowB.setCells {w : World} {g : Nat} {l : List UInt8} (h : RowB w g l) (o : Nat) (c : List UInt8) (hc : o + c.length ≤ l.length) : RowB (w.setCells g o (cellsB c)) g (l.take o ++ (c ++ l.drop (o + c.length))) := by
  have hlen : (l.take o ++ (c ++ l.drop (o + c.length))).length = l.length := by simp; omega
  have hcl : (cellsB c).length = c.length := by simp [cellsB]
  refine ⟨fun j hj => ?_, fun j hj => ?_, by rw [setCells_size]; exact h.lt⟩
  · rw [hlen] at hj
    by_cases h1 : o ≤ j ∧ j < o + c.length
    · obtain ⟨k, rfl⟩ : ∃ k, j = o + k := ⟨j - o, by omega⟩
      have := World.cell?_setCells_in g (cellsB c) o w (fun i hi => by rw [hcl] at hi; rw [h.c (o + i) (by omega)]; rfl) k (by rw [hcl]; omega)
      rw [this]
      have e : (l.take o ++ (c ++ l.drop (o + c.length)))[o + k]? = c[k]? := by
        rw [List.getElem?_append_right (by simp; omega), List.length_take, Nat.min_eq_left (by omega), Nat.add_sub_cancel_left, List.getElem?_append_left (by omega)]
      have e2 : (l.take o ++ (c ++ l.drop (o + c.length)))[o + k]'(by rw [hlen]; exact hj) = c[k]'(by omega) := by
        have := e
        rw [List.getElem?_eq_getElem (by rw [hlen]; exact hj), List.getElem?_eq_getElem (by omega)] at this
        exact Option.some.inj this
      rw [e2]
      simp [cellsB]
    · rw [World.cell?_setCells_out g (cellsB c) o w ⟨g, j, none⟩ (fun _ _ => by rw [hcl]; show j < o ∨ o + c.length ≤ j; omega), h.c j hj]
      have e : (l.take o ++ (c ++ l.drop (o + c.length)))[j]? = l[j]? := by
        by_cases h2 : j < o
        · rw [List.getElem?_append_left (by simp; omega), List.getElem?_take, if_pos h2]
        · rw [List.getElem?_append_right (by simp; omega), List.length_take, Nat.min_eq_left (by omega), List.getElem?_append_right (by omega), List.getElem?_drop]
          congr 1
          omega
      have e2 : (l.take o ++ (c ++ l.drop (o + c.length)))[j]'(by rw [hlen]; exact hj) = l[j] := by
        have := e
        rw [List.getElem?_eq_getElem (by rw [hlen]; exact hj), List.getElem?_eq_getElem hj] at this
        exact Option.some.inj this
      rw [e2]
  · rw [hlen] at hj
    rw [World.frozen?_setCells]; exact h.f j hj
theorem HoldsQ.setCells {w : World} {d g o : Nat} {q : Q} (h : HoldsQ w d q) (hne : d ≠ g) (vs : List Value) : HoldsQ (w.setCells g o vs) d q := by
  have hb := setCells_other g d hne vs o w
  exact ⟨by rw [World.cell?_of_block (w := w) hb]; exact h.c0, by rw [World.cell?_of_block (w := w) hb]; exact h.c1, by rw [World.cell?_of_block (w := w) hb]; exact h.c2, by rw [World.cell?_of_block (w := w) hb]; exact h.c3,
    by rw [World.frozen?_of_block (w := w) hb]; exact h.f0, by rw [World.frozen?_of_block (w := w) hb]; exact h.f1, by rw [World.frozen?_of_block (w := w) hb]; exact h.f2, by rw [World.frozen?_of_block (w := w) hb]; exact h.f3⟩
theorem RowB.other {w : World} {d g o : Nat} {l : List UInt8} (h : RowB w d l) (hne : d ≠ g) (vs : List Value) : RowB (w.setCells g o vs) d l := by
  have hb := setCells_other g d hne vs o w
  exact ⟨fun j hj => by rw [World.cell?_of_block (w := w) hb]; exact h.c j hj, fun j hj => by rw [World.frozen?_of_block (w := w) hb]; exact h.f j hj, by rw [setCells_size]; exact h.lt⟩
/-- copy(c[o:o+4], b[i:i+4]). -/
theorem copy_four (w : World) (gc gb o i cc cb : Nat) (lc lb : List UInt8) (hc : RowB w gc lc) (hb : RowB w gb lb) (ho : o + 4 ≤ lc.length) (hi : i + 4 ≤ lb.length) (ty : TypeId) :
    (Builtin.copy_ #[25, 25] ty #[.slice (some ⟨gc, o, none⟩) 4 cc, .slice (some ⟨gb, i, none⟩) 4 cb]).run Try.prog w = .ok (.int .i64 4) (w.setCells gc o (cellsB ((lb.drop i).take 4))) := by
  have hl : ((lb.drop i).take 4).length = 4 := by rw [List.length_take, List.length_drop]; omega
  have hcl : (cellsB ((lb.drop i).take 4)).length = 4 := by rw [cellsB, List.length_map, hl]
  have := run_copy_cells (P := Try.prog) w 25 25 ty 5 gc o 4 cc ⟨gb, i, none⟩ 4 cb (cellsB ((lb.drop i).take 4)) Try.underlying25 (by kernel_rfl) (by rw [hcl]; rfl)
    (fun j v hv => by
      have hj : j < 4 := by have := (List.getElem?_eq_some_iff.1 hv).1; omega
      rw [show Addr.add ⟨gb, i, none⟩ j = ⟨gb, i + j, none⟩ by unfold Addr.add; split <;> simp_all, hb.c (i + j) (by omega)]
      rw [← hv, cellsB, List.getElem?_map, List.getElem?_take, if_pos hj, List.getElem?_drop, List.getElem?_eq_getElem (by omega)]
      rfl)
    (fun j hj => by rw [hcl] at hj; rw [hc.c (o + j) (by omega)]; rfl) (fun j hj => by rw [hcl] at hj; exact hc.f (o + j) (by omega))
    (fun v hv => by obtain ⟨b, _, rfl⟩ := List.mem_map.1 hv; rfl)
  rw [this, hcl]
  rfl
end Go.Proofs.Ytomdfgfappoiiaa
