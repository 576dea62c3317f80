/-
  What the methods of le's Bytes answer, and what they leave behind: 'Has w b s': block b is a Bytes of which s is left.
-/
import Derived.Test.YtpbhbpopebjgiaaLay
namespace Go.Proofs.Ytpbhbpopebjgiaa
open Go.RowKit M

/-- Block b is a Bytes of which s is left. -/
def Has (w : World) (b : Nat) (s : ByteArray) : Prop :=
  w.cell? ⟨b, 0, none⟩ = some (.string s) ∧ w.frozen? ⟨b, 0, none⟩ = false ∧ b < w.heap.size

/-- The bytes of s from n on. -/
def tailB (s : ByteArray) (n : Nat) : ByteArray := s.extract n s.size
/-- The first n bytes of s. -/
def headB (s : ByteArray) (n : Nat) : ByteArray := s.extract 0 n

theorem Has.below {w w' : World} {b : Nat} {s : ByteArray} (h : Has w b s) {B : Nat} (hb : Below B w w') (hB : b < B) : Has w' b s :=
  ⟨by rw [hb.cell (p := ⟨b, 0, none⟩) hB]; exact h.1, by rw [hb.frozen (p := ⟨b, 0, none⟩) hB]; exact h.2.1, Nat.lt_of_lt_of_le h.2.2 hb.size⟩

/-- Behind a Take: the world with that one cell turned. -/
def setB (w : World) (b : Nat) (s : ByteArray) : World := w.setCell ⟨b, 0, none⟩ (.string s)
theorem Has.set {w : World} {b : Nat} {s : ByteArray} (h : Has w b s) (t : ByteArray) : Has (setB w b t) b t := by
  refine ⟨?_, ?_, ?_⟩
  · rw [setB, World.cell?_setCell_same _ _ _ (by rw [h.1])]
  · simp [setB, h.2.1]
  · simp [setB, h.2.2]
theorem Has.other {w : World} {b d : Nat} {s : ByteArray} (h : Has w d s) (hne : d ≠ b) (t : ByteArray) : Has (setB w b t) d s := by
  refine ⟨?_, ?_, ?_⟩
  · rw [setB, World.cell?_of_block (w := w) (Below.heap_setCell _ _ _ _ hne)]; exact h.1
  · simp [setB, h.2.1]
  · simp [setB, h.2.2]
theorem Has.belowSet {w : World} {B b : Nat} (hB : B ≤ b) (t : ByteArray) : Below B w (setB w b t) := (Below.refl _ _).setCell hB _

theorem headB_list (s : ByteArray) (n : Nat) : (headB s n).data.toList = s.data.toList.take n := by
  simp [headB, ByteArray.data_extract]
theorem tailB_list (s : ByteArray) (n : Nat) : (tailB s n).data.toList = s.data.toList.drop n := by
  simp [tailB, ByteArray.data_extract]
  rw [List.take_of_length_le]
  simp
theorem size_list (s : ByteArray) : s.size = s.data.toList.length := by
  rw [Array.length_toList]; rfl
theorem headB_size (s : ByteArray) (n : Nat) (h : n ≤ s.size) : (headB s n).size = n := by
  rw [size_list, headB_list, List.length_take, ← size_list]; omega
theorem tailB_size (s : ByteArray) (n : Nat) : (tailB s n).size = s.size - n := by
  rw [size_list, tailB_list, List.length_drop, ← size_list]
theorem ext_list {s t : ByteArray} (h : s.data.toList = t.data.toList) : s = t := by
  apply ByteArray.ext; exact Array.ext' h

/-- Are all bytes zero? -/
def zerosB (s : ByteArray) : Bool := s.data.toList.all (· == 0)
theorem take_snocB (s : ByteArray) (k : Nat) (h : k < s.size) : s.data.toList.take (k + 1) = s.data.toList.take k ++ [s[k]] := by
  rw [List.take_succ_eq_append_getElem (by simpa using h)]; rfl
end Go.Proofs.Ytpbhbpopebjgiaa
