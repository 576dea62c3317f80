/-
  The document's answers, and Pad, at every input, as one list each.
-/
import Derived.Test.YthpifplflhhkiaaWords2
import Derived.Test.YthpifplflhhkiaaRef
namespace Go.Proofs.Ythpifplflhhkiaa
set_option maxRecDepth 100000
open Go.RowKit M

theorem refU32_all (n : Int) (w : World) :
    Calls Try.prog 26 #[.int .i64 n] w fun e w' => e = .returned (.string ⟨(u32L n).toArray⟩) ∧ Below w.heap.size w w' := by
  by_cases h : 0 ≤ n ∧ n ≤ 4294967295
  · obtain ⟨k, rfl⟩ := Int.eq_ofNat_of_zero_le h.1
    rw [u32L, if_pos h]
    exact refU32_any k w (by omega)
  · rw [u32L, if_neg h]
    refine (refU32_none n w (by omega)).mono fun e w' ⟨he, hw⟩ => ⟨he, ?_⟩
    rw [← hw]; exact Below.refl _ _
/-- How many zero bytes are wanted. -/
def gap (n k : Nat) : Nat := (k - n % k) % k
/-- A text, padded to a multiple of k. -/
def padK (s : ByteArray) (k : Nat) : ByteArray := ⟨(s.data.toList ++ List.replicate (gap s.size k) 0).toArray⟩
/-- A text, padded: the text itself, where there is no such multiple. -/
def padB (s : ByteArray) (t : Int) : ByteArray := if 1 ≤ t ∧ t ≤ 4096 then padK s t.toNat else s

theorem padK_list (s : ByteArray) (k : Nat) : (padK s k).data.toList = s.data.toList ++ List.replicate (gap s.size k) 0 := rfl
theorem padK_size (s : ByteArray) (k : Nat) : (padK s k).size = s.size + gap s.size k := by
  rw [size_list, padK_list, List.length_append, List.length_replicate, ← size_list]
theorem gap_lt (n k : Nat) (hk : 1 ≤ k) : gap n k < k := Nat.mod_lt _ hk
theorem pad_pos (s : ByteArray) (k : Nat) (w : World) (hs : s.size ≤ 1099511627776) (h1 : 1 ≤ k) (h2 : k ≤ 4096) :
    Calls Try.prog 20 #[.string s, .int .i64 k] w fun e w' => e = .returned (.string (padK s k)) ∧ Below w.heap.size w w' := by
  have hlt : s.size % k < k := Nat.mod_lt _ h1
  by_cases hm : s.size % k = 0
  · refine (pad_even s k w (by unfold maxLen; omega) h1 h2 hm).mono fun e w' ⟨he, hw⟩ => ⟨?_, ?_⟩
    · rw [he]
      have e0 : gap s.size k = 0 := by rw [gap, hm, Nat.sub_zero, Nat.mod_self]
      have : padK s k = s := ext_list (by rw [padK_list, e0]; simp)
      rw [this]
    · rw [← hw]; exact Below.refl _ _
  · refine (pad_odd s k (s.size % k) w hs h1 h2 rfl (by omega)).mono fun e w' ⟨he, hw⟩ => ⟨?_, hw⟩
    rw [he]
    have e0 : gap s.size k = k - s.size % k := by rw [gap, Nat.mod_eq_of_lt (by omega)]
    have : padK s k = ⟨(s.data.toList ++ List.replicate (k - s.size % k) 0).toArray⟩ := ext_list (by rw [padK_list, e0])
    rw [this]
theorem pad_all (s : ByteArray) (t : Int) (w : World) (hs : s.size ≤ 1099511627776) :
    Calls Try.prog 20 #[.string s, .int .i64 t] w fun e w' => e = .returned (.string (padB s t)) ∧ Below w.heap.size w w' := by
  by_cases h : 1 ≤ t ∧ t ≤ 4096
  · obtain ⟨k, rfl⟩ := Int.eq_ofNat_of_zero_le (show 0 ≤ t by omega)
    rw [padB, if_pos h]
    exact pad_pos s k w hs (by omega) (by omega)
  · rw [padB, if_neg h]
    refine (pad_out s t w (by omega)).mono fun e w' ⟨he, hw⟩ => ⟨he, ?_⟩
    rw [← hw]; exact Below.refl _ _
theorem refPad_all (s : ByteArray) (t : Int) (w : World) (hs : s.size ≤ 1099511627776) :
    Calls Try.prog 27 #[.string s, .int .i64 t] w fun e w' => e = .returned (.string (padB s t)) ∧ w = w' := by
  by_cases h : 1 ≤ t ∧ t ≤ 4096
  · obtain ⟨k, rfl⟩ := Int.eq_ofNat_of_zero_le (show 0 ≤ t by omega)
    rw [padB, if_pos h]
    exact refPad_any s k w hs (by omega) (by omega)
  · rw [padB, if_neg h]
    exact refPad_out s t w (by omega)
end Go.Proofs.Ythpifplflhhkiaa
