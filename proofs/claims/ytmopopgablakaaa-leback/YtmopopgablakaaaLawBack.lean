/-
  The walk of polderlaw01.LeBack: it returns true, and writes nothing that was there.
-/
import Derived.Test.YtmopopgablakaaaWords2
import Derived.Test.YtmopopgablakaaaMeth
import Derived.Laws.Bits128
namespace Go.Proofs.Ytmopopgablakaaa
open Go.RowKit M

theorem and32 (n : Int) : bits .and .i64 n 4294967295 = (((n % 4294967296).toNat : Nat) : Int) := by
  have h1 : (BitVec.ofInt 64 4294967295).toNat = 2 ^ 32 - 1 := by decide
  have key : (BitVec.ofInt 64 n &&& BitVec.ofInt 64 4294967295).toNat = (n % ((2 ^ 64 : Nat) : Int)).toNat % 2 ^ 32 := by
    rw [BitVec.toNat_and, BitVec.toNat_ofInt, h1, Nat.and_two_pow_sub_one_eq_mod]
  show IntKind.i64.wrap ((BitVec.ofInt 64 n &&& BitVec.ofInt 64 4294967295).toNat : Nat) = _
  rw [key, IntKind.wrap_i64]
  omega
theorem and62 (n : Int) : bits .and .i64 n 4611686018427387903 = (((n % 4611686018427387904).toNat : Nat) : Int) := by
  have h1 : (BitVec.ofInt 64 4611686018427387903).toNat = 2 ^ 62 - 1 := by decide
  have key : (BitVec.ofInt 64 n &&& BitVec.ofInt 64 4611686018427387903).toNat = (n % ((2 ^ 64 : Nat) : Int)).toNat % 2 ^ 62 := by
    rw [BitVec.toNat_and, BitVec.toNat_ofInt, h1, Nat.and_two_pow_sub_one_eq_mod]
  show IntKind.i64.wrap ((BitVec.ofInt 64 n &&& BitVec.ofInt 64 4611686018427387903).toNat : Nat) = _
  rw [key, IntKind.wrap_i64]
  omega

theorem take_lay (x k : Nat) (l : List UInt8) : (layL x k ++ l).take k = layL x k := by
  rw [List.take_append_of_le_length (by rw [layL_length]; omega), List.take_of_length_le (by rw [layL_length]; omega)]
theorem drop_lay (x k : Nat) (l : List UInt8) : (layL x k ++ l).drop k = l := by
  rw [List.drop_append_of_le_length (by rw [layL_length]; omega), List.drop_of_length_le (by rw [layL_length]; omega), List.nil_append]
/-- What was laid at the beginning is read there. -/
theorem num_front {S : ByteArray} {x k : Nat} {l : List UInt8} (h : S.data.toList = layL x k ++ l) (hx : x < 256 ^ k) :
    numL (S.data.toList.take k) = x ∧ (tailB S k).data.toList = l ∧ k ≤ S.size := by
  refine ⟨?_, ?_, ?_⟩
  · rw [h, take_lay, numL_layL, Nat.mod_eq_of_lt hx]
  · rw [tailB_list, h, drop_lay]
  · rw [size_list, h, List.length_append, layL_length]; omega

set_option maxHeartbeats 1000000 in
theorem walk_LeBack (n x m : Int) (s : ByteArray) (w : World) (_w0 : (Lit.int .i64 n).wf = true) (w1 : (Lit.int .u64 x).wf = true) (_w2 : (Lit.int .i64 m).wf = true) (hs : s.size ≤ maxLen) :
    Calls Try.prog 3 #[.int .i64 n, .int .u64 x, .int .i64 m, .string s] w fun e w' => e = .returned (.bool true) ∧ Below w.heap.size w w' := by
  unfold maxLen at hs
  obtain ⟨hx0, hx1⟩ : 0 ≤ x ∧ x ≤ 18446744073709551615 := by simpa [Lit.wf, IntKind.min, IntKind.max, IntKind.signed, IntKind.bits] using w1
  obtain ⟨a, rfl⟩ := Int.eq_ofNat_of_zero_le hx0
  have ha : a < 18446744073709551616 := by omega
  clear hx0 hx1 w1
  by_cases hl : 3000 < s.size
  · go_enter Try.func3, Try.ntmps3
    go_wp2_with fail
    refine (awake_any _).mono ?_
    rintro e w1 ⟨rfl, b1⟩
    go_wp2_with fail
    refine (awake_any _).mono ?_
    rintro e w2 ⟨rfl, b2⟩
    go_wp2
    go_ret
    exact ⟨rfl, b1.trans (b2.mono b1.size)⟩
  · go_enter Try.func3, Try.ntmps3
    go_wp2_with fail
    refine (awake_any _).mono ?_
    rintro e w1 ⟨rfl, b1⟩
    go_wp2_with fail
    rw [and32, and62]
    have hN : (n % 4294967296).toNat < 4294967296 := by omega
    have hM : (m % 4611686018427387904).toNat < 4611686018427387904 := by omega
    generalize (n % 4294967296).toNat = N at hN
    generalize (m % 4611686018427387904).toNat = M at hM
    refine (u32_any N _ hN).mono ?_
    obtain ⟨A, hA⟩ : ∃ A : ByteArray, (⟨(layL N 4).toArray⟩ : ByteArray) = A := ⟨_, rfl⟩
    have hA4 : A.size ≤ 4 := by rw [← hA]; show (layL N 4).length ≤ 4; rw [layL_length]; omega
    have HA := Lib.hid hA
    rw [hA]; clear hA
    rintro e w2 ⟨rfl, b2⟩
    go_wp2_with fail
    refine (u64_any a _ ha).mono ?_
    obtain ⟨B, hB⟩ : ∃ A : ByteArray, (⟨(layL a 8).toArray⟩ : ByteArray) = A := ⟨_, rfl⟩
    have hB8 : B.size ≤ 8 := by rw [← hB]; show (layL a 8).length ≤ 8; rw [layL_length]; omega
    have HB := Lib.hid hB
    rw [hB]; clear hB
    rintro e w3 ⟨rfl, b3⟩
    go_wp2_with fail
    refine (int_any M _ hM).mono ?_
    obtain ⟨C, hC⟩ : ∃ A : ByteArray, (⟨(layL M 8).toArray⟩ : ByteArray) = A := ⟨_, rfl⟩
    have hC8 : C.size ≤ 8 := by rw [← hC]; show (layL M 8).length ≤ 8; rw [layL_length]; omega
    have HC := Lib.hid hC
    rw [hC]; clear hC
    rintro e w4 ⟨rfl, b4⟩
    go_wp2_with fail
    have hS : (A ++ B ++ C ++ s).data.toList = layL N 4 ++ (layL a 8 ++ (layL M 8 ++ s.data.toList)) := by
      rw [← HA.out, ← HB.out, ← HC.out]; simp
    obtain ⟨S, hSe⟩ : ∃ S : ByteArray, A ++ B ++ C ++ s = S := ⟨_, rfl⟩
    rw [hSe] at hS ⊢
    have HS := Lib.hid hS
    clear hS hSe HA HB HC hA4 hB8 hC8
    refine (new_any S _).mono ?_
    rintro e w5 ⟨rfl, h5, b5⟩
    have c5 : Below w.heap.size w w5 := by
      have c2 := b1.trans (b2.mono b1.size)
      have c3 := c2.trans (b3.mono c2.size)
      have c4 := c3.trans (b4.mono c3.size)
      exact c4.trans (b5.mono c4.size)
    have hb : w.heap.size ≤ w4.heap.size := by
      have := b1.size; have := b2.size; have := b3.size; have := b4.size; omega
    clear b1 b2 b3 b4 b5
    generalize w4.heap.size = b at h5 hb
    go_wp2_with fail
    obtain ⟨e1, l1, z1⟩ := num_front HS.out hN
    refine (mU32_ok w.heap.size b S _ h5 hb z1).mono ?_
    rw [e1]
    rintro e w6 ⟨rfl, h6, b6⟩
    clear e1 z1 h5 HS
    generalize tailB S 4 = S1 at h6 l1
    have L1 := Lib.hid l1
    clear l1
    go_wp2_with fail
    obtain ⟨e1, l1, z1⟩ := num_front L1.out (show a < 256 ^ 8 from ha)
    refine (mU64_ok w.heap.size b S1 _ h6 hb z1).mono ?_
    rw [e1]
    rintro e w7 ⟨rfl, h7, b7⟩
    clear e1 z1 h6 L1
    generalize tailB S1 8 = S2 at h7 l1
    have L2 := Lib.hid l1
    clear l1
    go_wp2_with fail
    obtain ⟨e1, l1, z1⟩ := num_front L2.out (show M < 256 ^ 8 from Nat.lt_trans hM (by decide))
    refine (mInt_ok w.heap.size b S2 _ h7 hb z1 (by rw [e1]; exact hM)).mono ?_
    rw [e1]
    rintro e w8 ⟨rfl, h8, b8⟩
    clear e1 z1 h7 L2
    generalize tailB S2 8 = S3 at h8 l1
    obtain rfl : S3 = s := ext_list l1
    clear l1
    go_wp2_with fail
    refine (take_ok w.heap.size b S3 S3.size _ h8 hb (Nat.le_refl _)).mono ?_
    have e1 : headB S3 S3.size = S3 := ext_list (by rw [headB_list, List.take_of_length_le (by rw [← size_list]; omega)])
    rw [e1]; clear e1
    rintro e w9 ⟨rfl, h9, b9⟩
    have e2 : tailB S3 S3.size = ⟨#[]⟩ := ext_list (by rw [tailB_list, List.drop_of_length_le (by rw [← size_list]; omega)])
    rw [e2] at h9; clear e2
    go_wp2_with (first
      | (go_at_call 20; refine (left_any b _ _ h9).mono ?_; rintro e w' ⟨rfl, rfl⟩)
      | (go_at_call 21; refine (zeros_any b _ _ h9 (by decide)).mono ?_; rintro e w' ⟨rfl, rfl⟩))
    go_ret
    exact ⟨rfl, (((c5.trans b6).trans b7).trans b8).trans b9⟩
end Go.Proofs.Ytmopopgablakaaa
