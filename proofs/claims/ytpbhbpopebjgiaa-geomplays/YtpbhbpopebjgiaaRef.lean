/-
  What the document's own answers (polderref01) come to: the same lists and numbers.
-/
import Derived.Test.YtpbhbpopebjgiaaMeth
namespace Go.Proofs.Ytpbhbpopebjgiaa
open Go.RowKit M

theorem drop_consB (s : ByteArray) (k : Nat) (h : k < s.size) : s.data.toList.drop k = s[k] :: s.data.toList.drop (k + 1) := by
  rw [List.drop_eq_getElem_cons (by simpa using h)]; rfl

theorem layL_snoc : ∀ (k x : Nat), layL x (k + 1) = layL x k ++ [UInt8.ofNat (x / 256 ^ k % 256)]
  | 0, x => by simp [layL]
  | k + 1, x => by
    rw [layL, layL_snoc k, layL, List.cons_append, Nat.div_div_eq_div_mul, Nat.pow_succ, Nat.mul_comm (256 ^ k) 256]
theorem append_list (s : ByteArray) (z : List UInt8) : s ++ { data := z.toArray } = (⟨(s.data.toList ++ z).toArray⟩ : ByteArray) := by
  apply ByteArray.ext
  simp

theorem refLay_any (x n : Nat) (w : World) (hx : x < 18446744073709551616) (hn : n ≤ 100) :
    Calls Try.prog 29 #[.int .u64 x, .int .i64 n] w fun e w' => e = .returned (.string ⟨(layL x n).toArray⟩) ∧ Below w.heap.size w w' := by
  have hcv : ∀ (w : World) (a : Int), (convert 47 9 (.slice (some ⟨w.heap.size, 0, none⟩) 1 1)).run Try.prog (w.alloc (.cells #[.int .u8 a] 5)) = .ok (.string ⟨#[UInt8.ofNat a.toNat]⟩) (w.alloc (.cells #[.int .u8 a] 5)) :=
    fun w a => conv_new w [a] 1 rfl
  go_enter Try.func29, Try.ntmps29
  go_wp2_with fail
  go_loopw [0, 5, 6] (fun y s i wx => ∃ j X : Nat, ∃ l : List UInt8, j ≤ n ∧ i = .int .i64 j ∧ y = .int .u64 X ∧ s = .string ⟨l.toArray⟩ ∧ X < 18446744073709551616 ∧ l.length ≤ 100 ∧ Hid (X = x / 256 ^ j ∧ l = layL x j) ∧ Below w.heap.size w wx) (fun _ _ i _ => n - (intOf i).toNat)
  case atStart => exact ⟨0, x, [], Nat.zero_le _, rfl, rfl, rfl, hx, by simp, Lib.hid ⟨by simp, rfl⟩, Below.refl _ _⟩
  case round =>
    obtain ⟨j, X, l, hj, rfl, rfl, rfl, hX, hl, HX, hb⟩ := hrel
    by_cases hlt : j < n
    · have hll : l.length + 1 ≤ 100 := by rw [HX.out.2, layL_length]; omega
      go_wp2
      refine ⟨⟨j + 1, X / 256, l ++ [UInt8.ofNat (X % 256)], by omega, by go_num, by go_num, ?_, by omega, by simpa using hll, Lib.hid ⟨?_, ?_⟩, hb.alloc hb.size _⟩, by simp [intOf]; omega⟩
      · exact congrArg Value.string (append_list ⟨l.toArray⟩ [UInt8.ofNat (X % 256)])
      · rw [HX.out.1, Nat.div_div_eq_div_mul, Nat.pow_succ]
      · rw [layL_snoc, HX.out.1, HX.out.2]
    · have hjn : n = j := by omega
      have HJ := Lib.hid hjn
      clear hjn
      go_wp2
      go_ret
      refine ⟨?_, hb⟩
      have e : l = layL x n := by rw [HJ.out]; exact HX.out.2
      rw [← e]; rfl

theorem refU32_any (n : Nat) (w : World) (hn : n < 4294967296) :
    Calls Try.prog 26 #[.int .i64 n] w fun e w' => e = .returned (.string ⟨(layL n 4).toArray⟩) ∧ Below w.heap.size w w' := by
  go_enter Try.func26, Try.ntmps26
  go_wp2_with fail
  refine (refLay_any n 4 _ (by omega) (by omega)).mono ?_
  rintro e w' ⟨rfl, hb⟩
  go_wp2
  go_ret
  exact ⟨rfl, hb⟩
theorem refU32_none (n : Int) (w : World) (hn : n < 0 ∨ 4294967295 < n) :
    Calls Try.prog 26 #[.int .i64 n] w fun e w' => e = .returned (.string ⟨#[]⟩) ∧ w = w' := by
  rcases hn with hn | hn
  · go_enter Try.func26, Try.ntmps26
    go_wp2
    go_ret
    exact ⟨rfl, rfl⟩
  · have h0 : ¬ n < 0 := by omega
    go_enter Try.func26, Try.ntmps26
    go_wp2
    go_ret
    exact ⟨rfl, rfl⟩
theorem mod_step (a j k : Nat) (hk : 1 ≤ k) (hj : j < (k - a % k) % k) : (a + j) % k ≠ 0 := by
  have hr : a % k < k := Nat.mod_lt _ hk
  have h1 : a % k ≠ 0 := by intro h; rw [h, Nat.sub_zero, Nat.mod_self] at hj; omega
  rw [Nat.mod_eq_of_lt (by omega)] at hj
  rw [Nat.add_mod, Nat.mod_eq_of_lt (a := j) (by omega), Nat.mod_eq_of_lt (by omega)]
  omega
theorem mod_stop (a k : Nat) (hk : 1 ≤ k) : (a + (k - a % k) % k) % k = 0 := by
  have hr : a % k < k := Nat.mod_lt _ hk
  by_cases h1 : a % k = 0
  · rw [h1, Nat.sub_zero, Nat.mod_self, Nat.add_zero, h1]
  · rw [Nat.mod_eq_of_lt (a := k - a % k) (by omega), Nat.add_mod, Nat.mod_eq_of_lt (a := k - a % k) (by omega)]
    rw [show a % k + (k - a % k) = k by omega, Nat.mod_self]
end Go.Proofs.Ytpbhbpopebjgiaa
