/-
  A row of bytes; a spoilt text.
-/
import Derived.Test.YtmkheikllbjcbaaEi
import Derived.Laws.IdiomStrings
import Derived.Laws.Cells
namespace Go.Proofs.Ytmkheikllbjcbaa
open Go.RowKit Go.Maps

/-- Block g begins with the bytes l, and they may be written. -/
structure RowB (w : World) (g : Nat) (l : List UInt8) : Prop where
  c : ∀ j (h : j < l.length), w.cell? ⟨g, j, none⟩ = some (.int .u8 (l[j].toNat : Int))
  f : ∀ j, j < l.length → w.frozen? ⟨g, j, none⟩ = false
  lt : g < w.heap.size
theorem RowB.below {w w' : World} {g B : Nat} {l : List UInt8} (h : RowB w g l) (hb : Below B w w') (hB : g < B) : RowB w' g l :=
  ⟨fun j hj => by rw [hb.cell (p := ⟨g, j, none⟩) hB]; exact h.c j hj, fun j hj => by rw [hb.frozen (p := ⟨g, j, none⟩) hB]; exact h.f j hj, Nat.lt_of_lt_of_le h.lt hb.size⟩
/-- The world behind []byte(p). -/
def bytesW (w : World) (p : ByteArray) : World :=
  w.drew.alloc (.cells (bytesRow p (grownCap w p.size 0 5)) 5 ((bytesRow p (grownCap w p.size 0 5)).size, (bytesRow p (grownCap w p.size 0 5)).size + 1))
theorem conv_to (w : World) (p : ByteArray) : (convert 9 40 (.string p)).run Try.prog w = .ok (.slice (some ⟨w.heap.size, 0, none⟩) p.size (grownCap w p.size 0 5)) (bytesW w p) :=
  run_bytes_of_string w 9 40 5 p Try.underlying9 Try.underlying40 Try.underlying5
theorem bytesW_below (w : World) (p : ByteArray) : Below w.heap.size w (bytesW w p) := ((Below.refl _ w).drew).alloc (Nat.le_refl _) _
theorem bytesW_row (w : World) (p : ByteArray) : RowB (bytesW w p) w.heap.size p.data.toList := by
  have hh : (bytesW w p).heap[w.heap.size]? = some (.cells (bytesRow p (grownCap w p.size 0 5)) 5 ((bytesRow p (grownCap w p.size 0 5)).size, (bytesRow p (grownCap w p.size 0 5)).size + 1)) := heap_alloc_new w.drew _
  have hz : p.data.toList.length ≤ (bytesRow p (grownCap w p.size 0 5)).size := by
    simp [bytesRow]
  refine ⟨fun j hj => ?_, fun j hj => ?_, by show w.heap.size < _; simp [bytesW]⟩
  · have hj2 : j < p.data.size := by simpa using hj
    have hb : (bytesRow p (grownCap w p.size 0 5))[j]? = some (.int .u8 (p.data[j].toNat : Int)) := by
      rw [bytesRow, Array.getElem?_append_left (by simpa using hj2), Array.getElem?_map, Array.getElem?_eq_getElem hj2]
      rfl
    simp [World.cell?, hh, hb]
  · simp [World.frozen?, hh]
    omega
/-- string(b). -/
theorem conv_from (w : World) (g : Nat) (l : List UInt8) (h : RowB w g l) (n cap : Nat) (hn : n = l.length) :
    (convert 40 9 (.slice (some ⟨g, 0, none⟩) n cap)).run Try.prog w = .ok (.string ⟨l.toArray⟩) w := by
  subst hn
  exact run_convert_bytes_back (P := Try.prog) w 40 9 5 ⟨g, 0, none⟩ cap l Try.underlying40 Try.underlying5 Try.underlying9 (fun j hj => by
    rw [show Addr.add ⟨g, 0, none⟩ j = ⟨g, j, none⟩ by unfold Addr.add; split <;> simp_all]
    rw [h.c j hj])
theorem RowB.set {w : World} {g : Nat} {l : List UInt8} (h : RowB w g l) (j : Nat) (hj : j < l.length) (b : UInt8) : RowB (w.setCell ⟨g, j, none⟩ (.int .u8 (b.toNat : Int))) g (l.set j b) := by
  refine ⟨fun k hk => ?_, fun k hk => ?_, by simp [World.setCell]; exact h.lt⟩
  · rw [List.length_set] at hk
    by_cases e : j = k
    · subst e
      rw [World.cell?_setCell_same _ _ _ (h.c j hj)]
      simp
    · rw [World.cell?_setCell_other _ _ _ _ (by intro h; apply e; cases h; rfl), h.c k hk, List.getElem_set_ne e]
  · rw [List.length_set] at hk
    rw [World.frozen?_setCell]; exact h.f k hk

theorem rem64 (n : Int) : ∃ (r : Int) (q : Nat), n.tmod 64 = r ∧ -64 < r ∧ r < 64 ∧ (r + 64).tmod 64 = (q : Int) ∧ n % 64 = (q : Int) ∧ q < 64 := by
  refine ⟨n.tmod 64, (n % 64).toNat, rfl, ?_, ?_, ?_, by omega, by omega⟩
  · have := Int.lt_tmod_of_pos n (show (0 : Int) < 64 by omega); omega
  · exact Int.tmod_lt_of_pos n (by omega)
  · have h1 := Int.lt_tmod_of_pos n (show (0 : Int) < 64 by omega)
    rw [Int.tmod_eq_emod_of_nonneg (by omega)]
    have h2 : (n.tmod 64 + 64) % 64 = n % 64 := by
      rw [Int.tmod_def]
      omega
    omega
theorem now_len {w : World} {b : Nat} {S : Dv} {fp : Nat → Prop} (h : DevAt w b S fp) (k : Nat) (hk : k < S.med.length) : (S.now k).length = 64 := by
  obtain ⟨mb, cb, m, hd, h⟩ := h
  obtain ⟨hr, hi, hnow⟩ := last_rows h k hk
  rw [← hnow]
  exact hr.at_ _ hi
end Go.Proofs.Ytmkheikllbjcbaa
