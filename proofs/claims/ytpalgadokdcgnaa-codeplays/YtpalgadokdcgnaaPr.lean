/-
  The document's answers: its Even and Without.
-/
import Derived.Test.YtpalgadokdcgnaaMc
namespace Go.Proofs.Ytpalgadokdcgnaa
set_option maxRecDepth 100000
open Go.RowKit M

/-- The first k texts without the one at place j. -/
def outTo (l : List ByteArray) (j k : Nat) : List ByteArray := (l.take k).eraseIdx j
theorem outTo_zero (l : List ByteArray) (j : Nat) : outTo l j 0 = [] := by simp [outTo]
theorem outTo_all (l : List ByteArray) (j : Nat) : outTo l j l.length = l.eraseIdx j := by simp [outTo]
theorem outTo_same (l : List ByteArray) (j : Nat) (h : j < l.length) : outTo l j (j + 1) = outTo l j j := by
  have hl : (l.take j).length = j := by rw [List.length_take]; omega
  have e1 : (l.take j ++ [l[j]]).eraseIdx j = l.take j := by
    rw [List.eraseIdx_append_of_length_le (by omega), hl, Nat.sub_self]
    exact List.append_nil _
  have e2 : (l.take j).eraseIdx j = l.take j := List.eraseIdx_of_length_le (by omega)
  rw [outTo, outTo, List.take_succ_eq_append_getElem h, e1, e2]
theorem outTo_next (l : List ByteArray) (j k : Nat) (h : k < l.length) (hne : k ≠ j) : outTo l j k ++ [l[k]] = outTo l j (k + 1) := by
  have hl : (l.take k).length = k := by rw [List.length_take]; omega
  unfold outTo
  rw [List.take_succ_eq_append_getElem h]
  by_cases hj : j < k
  · rw [List.eraseIdx_append_of_lt_length (by omega)]
  · rw [List.eraseIdx_of_length_le (by omega), List.eraseIdx_of_length_le (by simp; omega)]
theorem outTo_le (l : List ByteArray) (j k : Nat) : (outTo l j k).length ≤ l.length := by
  unfold outTo
  have h1 := List.length_eraseIdx_le (l.take k) j
  rw [List.length_take] at h1
  omega

end Go.Proofs.Ytpalgadokdcgnaa
