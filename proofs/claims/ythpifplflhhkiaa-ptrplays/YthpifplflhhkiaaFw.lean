/-
  A text's words, padded and joined; the first number of a sum; zero words (no call is walked here).
-/
import Derived.Test.YthpifplflhhkiaaFit
namespace Go.Proofs.Ythpifplflhhkiaa
set_option maxRecDepth 100000
open Go.RowKit M

theorem early2 {w w1 w2 : World} (b1 : Below w.heap.size w w1) (b2 : Below w1.heap.size w1 w2) : Below w.heap.size w w2 := b1.trans (b2.mono b1.size)
theorem gap4_zero (n : Nat) (h : n % 4 = 0) : gap n 4 = 0 := by rw [gap, h]
theorem pad4_same (s : ByteArray) (h : s.size % 4 = 0) : padK s 4 = s := ext_list (by rw [padK_list, gap4_zero _ h]; simp)
theorem pad4_pad (s : ByteArray) : padK (padK s 4) 4 = padK s 4 := pad4_same _ (pad4_size s)
theorem wordsB_pad (s : ByteArray) : wordsB (padK s 4) = wordsB s := by rw [wordsB, wordsB, pad4_pad]
theorem append_data (s t : ByteArray) : (s ++ t).data.toList = s.data.toList ++ t.data.toList := by simp
theorem append_size (s t : ByteArray) : (s ++ t).size = s.size + t.size := by rw [size_list, append_data, List.length_append, ← size_list, ← size_list]
theorem wordsB_append (s t : ByteArray) (h : s.size % 4 = 0) : wordsB (s ++ t) = wordsB s ++ wordsB t := by
  have hg : gap (s ++ t).size 4 = gap t.size 4 := by rw [append_size, gap, gap]; omega
  have e : (padK (s ++ t) 4).data.toList = s.data.toList ++ (padK t 4).data.toList := by
    rw [padK_list, padK_list, append_data, hg, List.append_assoc]
  rw [wordsB, e, wordsL_append _ _ (by rw [← size_list]; exact h), wordsB, wordsB, pad4_same s h]
theorem wordsB_lt (s : ByteArray) : ∀ x ∈ wordsB s, x < 4294967296 := wordsL_lt _
theorem pad4_le (s : ByteArray) : (padK s 4).size < s.size + 4 := by
  rw [padK_size]; have := gap_lt s.size 4 (by omega); omega
end Go.Proofs.Ythpifplflhhkiaa
