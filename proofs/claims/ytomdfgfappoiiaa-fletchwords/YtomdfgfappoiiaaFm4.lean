/-
  Plain facts (no program is named here): a word's four bytes changed by the bytes of a number; two words' bytes changed to each other's.
-/
import Derived.Test.YtomdfgfappoiiaaFm3
namespace Go.Proofs.Ytomdfgfappoiiaa.M

/-- A byte changed by the lowest byte of m. -/
def xorB (o : UInt8) (m : Nat) : UInt8 := o ^^^ UInt8.ofNat (m % 256)
theorem xorB_zero (o : UInt8) : xorB o 0 = o := by simp [xorB]
theorem xorB_same {o : UInt8} {m : Nat} (h : xorB o m = o) : m % 256 = 0 := by
  have h1 := congrArg UInt8.toNat h
  rw [xorB, UInt8.toNat_xor] at h1
  have h2 : (UInt8.ofNat (m % 256)).toNat = m % 256 := toNat_ofNat m
  rw [h2] at h1
  have h3 := congrArg (fun x => o.toNat ^^^ x) h1
  simp only [← Nat.xor_assoc, Nat.xor_self, Nat.zero_xor] at h3
  exact h3
theorem set4 (l : List UInt8) (X : Nat) (a b c d : UInt8) (h : X + 4 ≤ l.length) : (((l.set X a).set (X + 1) b).set (X + 2) c).set (X + 3) d = l.take X ++ ([a, b, c, d] ++ l.drop (X + 4)) := by
  apply List.ext_getElem?
  intro j
  have hX : (l.take X).length = X := by rw [List.length_take]; omega
  by_cases h1 : j < X
  · rw [List.getElem?_append_left (by omega), List.getElem?_take, if_pos h1, List.getElem?_set_ne (by omega), List.getElem?_set_ne (by omega), List.getElem?_set_ne (by omega), List.getElem?_set_ne (by omega)]
  · rw [List.getElem?_append_right (by omega), hX]
    by_cases h2 : j < X + 4
    · rw [List.getElem?_append_left (by simp; omega)]
      have : j = X ∨ j = X + 1 ∨ j = X + 2 ∨ j = X + 3 := by omega
      rcases this with rfl | rfl | rfl | rfl
      · rw [List.getElem?_set_ne (by omega), List.getElem?_set_ne (by omega), List.getElem?_set_ne (by omega), List.getElem?_set_self (by omega)]
        simp
      · rw [List.getElem?_set_ne (by omega), List.getElem?_set_ne (by omega), List.getElem?_set_self (by rw [List.length_set]; omega)]
        simp
      · rw [List.getElem?_set_ne (by omega), List.getElem?_set_self (by rw [List.length_set, List.length_set]; omega)]
        simp
      · rw [List.getElem?_set_self (by rw [List.length_set, List.length_set, List.length_set]; omega)]
        simp
    · rw [List.getElem?_append_right (by simp; omega), List.getElem?_set_ne (by omega), List.getElem?_set_ne (by omega), List.getElem?_set_ne (by omega), List.getElem?_set_ne (by omega), List.getElem?_drop]
      congr 1
      simp
      omega
theorem four_at (l : List UInt8) (X : Nat) (h : X + 4 ≤ l.length) : (l.drop X).take 4 = [l[X], l[X + 1], l[X + 2], l[X + 3]] := by
  apply List.ext_getElem?
  intro j
  rw [List.getElem?_take]
  by_cases hj : j < 4
  · rw [if_pos hj, List.getElem?_drop, List.getElem?_eq_getElem (by omega)]
    have : j = 0 ∨ j = 1 ∨ j = 2 ∨ j = 3 := by omega
    rcases this with rfl | rfl | rfl | rfl <;> rfl
  · rw [if_neg hj, List.getElem?_eq_none (by simp; omega)]
theorem numL_lt4 (c : List UInt8) (hc : c.length = 4) : numL c < 4294967296 := by
  have h := numL_lt c
  rw [hc] at h
  have e4 : (256 : Nat) ^ 4 = 4294967296 := by decide
  omega
/-- A word changed by a number that is not 0 gives another sum. -/
theorem changed_ne (l : List UInt8) (I n : Nat) (hI : 4 * I + 4 ≤ l.length) (hn : 0 < n) (hn2 : n < 4294967296) (o0 o1 o2 o3 : UInt8) (ho : (l.drop (4 * I)).take 4 = [o0, o1, o2, o3]) :
    sumQ zeroQ (wordsL (put4 l I [xorB o0 n, xorB o1 (n / 256), xorB o2 (n / 65536), xorB o3 (n / 16777216)])) ≠ sumQ zeroQ (wordsL l) := by
  rw [wordsL_put4 l I _ rfl hI]
  have hlt : I < (wordsL l).length := by rw [wordsL_length]; omega
  have hv : numL [xorB o0 n, xorB o1 (n / 256), xorB o2 (n / 65536), xorB o3 (n / 16777216)] < 4294967296 := numL_lt4 _ rfl
  refine sum_one _ I _ hlt (wordsL_lt l) hv ?_
  rw [wordsL_getElem l I hlt, ho]
  intro e
  have e2 := numL_inj4 rfl rfl e
  simp only [List.cons.injEq, and_true] at e2
  obtain ⟨e0, e1, e2, e3⟩ := e2
  have h0 := xorB_same e0
  have h1 := xorB_same e1
  have h2 := xorB_same e2
  have h3 := xorB_same e3
  omega
theorem changed_eq (l : List UInt8) (I : Nat) (o0 o1 o2 o3 : UInt8) (ho : (l.drop (4 * I)).take 4 = [o0, o1, o2, o3]) : put4 l I [xorB o0 0, xorB o1 (0 / 256), xorB o2 (0 / 65536), xorB o3 (0 / 16777216)] = l := by
  simp only [Nat.zero_div, xorB_zero]
  rw [put4, ← ho, ← List.drop_drop, List.take_append_drop, List.take_append_drop]
/-- Two unlike words changed to each other's give another sum. -/
theorem swapped_ne (l : List UInt8) (I J : Nat) (hI : 4 * I + 4 ≤ l.length) (hJ : 4 * J + 4 ≤ l.length) (hl : l.length ≤ 4000) (hne : (l.drop (4 * I)).take 4 ≠ (l.drop (4 * J)).take 4) :
    sumQ zeroQ (wordsL (put4 (put4 l I ((l.drop (4 * J)).take 4)) J ((l.drop (4 * I)).take 4))) ≠ sumQ zeroQ (wordsL l) := by
  have hI4 : ((l.drop (4 * I)).take 4).length = 4 := by rw [List.length_take, List.length_drop]; omega
  have hJ4 : ((l.drop (4 * J)).take 4).length = 4 := by rw [List.length_take, List.length_drop]; omega
  have hIl : I < (wordsL l).length := by rw [wordsL_length]; omega
  have hJl : J < (wordsL l).length := by rw [wordsL_length]; omega
  rw [wordsL_put4 _ J _ hI4 (by rw [put4_length _ _ _ hJ4 hI]; exact hJ), wordsL_put4 l I _ hJ4 hI, ← wordsL_getElem l I hIl, ← wordsL_getElem l J hJl]
  refine sum_two _ I J hIl hJl (by rw [wordsL_length]; omega) (wordsL_lt l) ?_
  rw [wordsL_getElem l I hIl, wordsL_getElem l J hJl]
  exact fun e => hne (numL_inj4 hI4 hJ4 e)
end Go.Proofs.Ytomdfgfappoiiaa.M
