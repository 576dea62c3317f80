/-
  New.
-/
import Derived.Test.YtmkheikllbjcbaaDn
import Derived.Laws.MakeOwn
namespace Go.Proofs.Ytmkheikllbjcbaa
open Go.RowKit Go.Maps

/-- A new device. -/
def newDv (n : Nat) : Dv := { med := List.replicate n (fullS 0), since := fun _ => [], lost := false, fused := false, left := 0, cnt := 0 }
/-- The world behind make([]sector, n). -/
def secsW (w : World) (n : Nat) : World := w.alloc (.cells (madeCells (Array.replicate 64 (.int .u8 0)) (n * 64)) 64)
theorem make_secs (w : World) (n : Nat) (hn : n ≤ 4096) : (Instr.makeSlice 58 (.int .i64 (n : Int)) (.int .i64 (n : Int))).run Try.prog w = .ok (.slice (some ⟨w.heap.size, 0, none⟩) n n) (secsW w n) := by
  obtain ⟨i, h1, h2, h3, h4⟩ := info_parts (P := Try.prog) (e := 64) (z := .agg (Array.replicate 64 (.int .u8 0))) (size := 64) (bytes := 64) (by kernel_rfl)
  have := run_make (P := Try.prog) w 58 64 i _ Try.underlying58 h1 h2 .i64 .i64 n n (by omega) (by omega) (by rw [h4]; omega) (by omega)
  rw [this, h3]
  rfl
theorem full_at (c : UInt8) (j : Nat) (hj : j < 64) : (secCells (fullS c))[j]? = some (.int .u8 (c.toNat : Int)) := by
  rw [secCells, List.getElem?_map, fullS, List.getElem?_replicate, if_pos hj]
  rfl
theorem secsW_rows (w : World) (n : Nat) (hn : n ≤ 4096) : Rows (secsW w n) w.heap.size n (List.replicate n (fullS 0)) := by
  have hh : (secsW w n).heap[w.heap.size]? = some (.cells (madeCells (Array.replicate 64 (.int .u8 0)) (n * 64)) 64 (0, 0)) := heap_alloc_new w _
  refine ⟨⟨_, hh, size_madeCells _ _⟩, fun i hi j hj => ?_, by simp, by unfold maxLen; omega, fun s hs => by rw [(List.mem_replicate.1 hs).2]; exact fullS_len 0⟩
  rw [List.length_replicate] at hi
  rw [List.getElem_replicate]
  unfold World.cell?
  simp only [hh]
  have h1 : i * 64 + j < n * 64 := by omega
  have h2 : (i * 64 + j) % 64 = j := by omega
  rw [full_at 0 j hj]
  simp [madeCells, h1, h2, hj]
theorem secsW_below (w : World) (n : Nat) : Below w.heap.size w (secsW w n) := (Below.refl _ w).alloc (Nat.le_refl _) _

theorem new_no (k : Int) (w : World) (h : k < 1 ∨ 4096 < k) :
    Calls Try.prog 12 #[.int .i64 k] w fun e w' => e = .returned (.tuple #[.pointer none, .int .i64 1]) ∧ w = w' := by
  by_cases h1 : k < 1
  · go_enter Try.func12, Try.ntmps12
    go_wp2
    go_ret2
    exact ⟨rfl, rfl⟩
  · have h2 : 4096 < k := by omega
    have h3 : decide (k < 1) = false := by simpa using h1
    go_enter Try.func12, Try.ntmps12
    go_wp2
    go_ret2
    exact ⟨rfl, rfl⟩
/-- The world behind New. -/
def newW (w : World) (n : Nat) : World := ((secsW w n).alloc (.map #[] 0)).alloc (.cells (dvCells (newDv n) w.heap.size (w.heap.size + 1)) 61)
theorem newW_dev (w : World) (n : Nat) (h1 : 1 ≤ n) (h2 : n ≤ 4096) : DevAt (newW w n) (w.heap.size + 2) (newDv n) (fun k => w.heap.size ≤ k ∧ k < w.heap.size + 3) ∧ Below w.heap.size w (newW w n) := by
  have z1 : (secsW w n).heap.size = w.heap.size + 1 := by simp [secsW]
  have z2 : ((secsW w n).alloc (.map #[] 0)).heap.size = w.heap.size + 2 := by simp [z1]
  have z3 : (newW w n).heap.size = w.heap.size + 3 := by unfold newW; simp [z1]
  have hbel : Below w.heap.size w (newW w n) := ((secsW_below w n).alloc (by omega) _).alloc (by omega) _
  have hl : (newDv n).med.length = n := by simp [newDv]
  have a1 : ∀ k, k < w.heap.size + 1 → (newW w n).heap[k]? = (secsW w n).heap[k]? := fun k hk => by
    unfold newW
    rw [Below.heap_alloc _ _ _ (by omega), Below.heap_alloc _ _ _ (by omega)]
  refine ⟨⟨w.heap.size, w.heap.size + 1, 0, fun _ => (0, 0), ?_⟩, hbel⟩
  refine ⟨⟨by rw [hl]; exact h1, by rw [hl]; exact h2, fun _ _ => rfl, by show 0 < _; omega, fun _ => Nat.le_refl _⟩, ?_, ?_, ?_, Nat.le_refl _, fun i hi => absurd rfl hi, fun i _ hi => absurd rfl hi, fun i hi => absurd rfl hi, ⟨by omega, by omega⟩, ⟨by omega, by omega⟩, ⟨by omega, by omega⟩, fun i hi => absurd rfl hi, fun k hk => by rw [z3]; omega⟩
  · have := heap_alloc_new ((secsW w n).alloc (.map #[] 0)) (.cells (dvCells (newDv n) w.heap.size (w.heap.size + 1)) 61)
    rw [z2] at this
    exact this
  · rw [hl]
    exact (secsW_rows w n h2).same (a1 _ (by omega))
  · have h3 := CMap.made (secsW w n)
    rw [z1] at h3
    refine (h3.same (w' := newW w n) (Below.heap_alloc _ _ _ (by omega))).congr fun k _ => ?_
    unfold hdOf
    rw [if_pos (.inr rfl)]
theorem new_ok (n : Nat) (w : World) (h1 : 1 ≤ n) (h2 : n ≤ 4096) :
    Calls Try.prog 12 #[.int .i64 (n : Int)] w fun e w' => e = .returned (.tuple #[.pointer (some ⟨w.heap.size + 2, 0, none⟩), .int .i64 0]) ∧ DevAt w' (w.heap.size + 2) (newDv n) (fun k => w.heap.size ≤ k ∧ k < w.heap.size + 3) ∧ Below w.heap.size w w' := by
  have hm := make_secs w n h2
  have hmm := @run_makeMap Try.prog
  have h3 : decide ((n : Int) < 1) = false := by simp; omega
  have h4 : decide ((4096 : Int) < (n : Int)) = false := by simp; omega
  have HW := Lib.hid (newW_dev w n h1 h2)
  have z1 : (secsW w n).heap.size = w.heap.size + 1 := by simp [secsW]
  have hl : (newDv n).med.length = n := by simp [newDv]
  have HL := Lib.hid hl
  clear hl
  have e3 : Hid (newW w n = ((secsW w n).alloc (.map #[] 0)).alloc (.cells (dvCells (newDv n) w.heap.size (w.heap.size + 1)) 61)) := rfl
  have e4 : Hid (dvCells (newDv n) w.heap.size (w.heap.size + 1) = #[.slice (some ⟨w.heap.size, 0, none⟩) n n, .map (some (w.heap.size + 1)), .bool false, .bool false, .int .i64 0]) := by
    show dvCells _ _ _ = _
    unfold dvCells
    rw [HL.out]
    rfl
  go_enter Try.func12, Try.ntmps12
  go_wp2
  go_ret2
  rw [← e4.out, ← e3.out]
  exact ⟨rfl, HW.out⟩
end Go.Proofs.Ytmkheikllbjcbaa
