/-
  What the document's own answers (polderref01) come to: the same lists and numbers.
-/
import Derived.Test.YthpifplflhhkiaaMeth
namespace Go.Proofs.Ythpifplflhhkiaa
set_option maxRecDepth 100000
open Go.RowKit M

theorem refZeros_any (s : ByteArray) (w : World) (hs : s.size ≤ maxLen) :
    Calls Try.prog 18 #[.string s] w fun e w' => e = .returned (.bool (zerosB s)) ∧ w = w' := by
  unfold maxLen at hs
  go_enter Try.func18, Try.ntmps18
  go_wp2_with fail
  go_loop [3] (fun i => ∃ k : Nat, k ≤ s.size ∧ i = .int .i64 k ∧ Hid ((s.data.toList.take k).all (· == 0) = true)) (fun i => s.size - (intOf i).toNat)
  case atStart => exact ⟨0, Nat.zero_le _, rfl, Lib.hid rfl⟩
  case round =>
    obtain ⟨k, hk, rfl, H⟩ := hrel
    by_cases hlt : k < s.size
    · have hts := Lib.hid (take_snocB s k hlt)
      by_cases hz : s[k] = 0
      · have hz' : ((s[k].toNat : Int) != 0) = false := by rw [hz]; rfl
        have HZ := Lib.hid hz
        clear hz
        go_wp2
        go_round
        case rel => exact ⟨k + 1, by omega, by go_num, Lib.hid (by rw [hts.out]; simp only [List.all_append, H.out, HZ.out]; rfl)⟩
        case measure => simp [intOf]; omega
      · have hz' : ((s[k].toNat : Int) != 0) = true := by
          rw [bne_iff_ne]; intro e; apply hz; apply UInt8.toNat_inj.1; simpa using e
        have HZ := Lib.hid hz
        clear hz
        go_wp2
        go_ret
        refine ⟨?_, rfl⟩
        have : zerosB s = false := by
          unfold zerosB
          rw [List.all_eq_false]
          exact ⟨s[k], by rw [← List.take_append_drop (k + 1) s.data.toList, hts.out]; simp, by simpa using HZ.out⟩
        rw [this]; rfl
    · go_wp2
      go_ret
      refine ⟨?_, rfl⟩
      have : zerosB s = true := by
        have h := H.out
        rwa [List.take_of_length_le (by rw [← size_list]; omega)] at h
      rw [this]; rfl

theorem drop_consB (s : ByteArray) (k : Nat) (h : k < s.size) : s.data.toList.drop k = s[k] :: s.data.toList.drop (k + 1) := by
  rw [List.drop_eq_getElem_cons (by simpa using h)]; rfl

theorem refNumber_any (s : ByteArray) (w : World) (hs : s.size ≤ 8) :
    Calls Try.prog 29 #[.string s] w fun e w' => e = .returned (.int .u64 (numL s.data.toList : Nat)) ∧ w = w' := by
  go_enter Try.func29, Try.ntmps29
  go_wp2_with fail
  go_loop [3, 4] (fun x i => ∃ k : Nat, k ≤ s.size ∧ i = .int .i64 ((k : Int) - 1) ∧ x = .int .u64 (numL (s.data.toList.drop k) : Nat)) (fun _ i => (intOf i + 1).toNat)
  case atStart => exact ⟨s.size, Nat.le_refl _, by go_num, by rw [List.drop_of_length_le (by rw [← size_list]; exact Nat.le_refl _)]; rfl⟩
  case round =>
    obtain ⟨k, hk, rfl, rfl⟩ := hrel
    cases k with
    | zero =>
      go_wp2
      go_ret
      exact ⟨by simp, rfl⟩
    | succ k =>
      have hlt : k < s.size := by omega
      have hdr := Lib.hid (drop_consB s k hlt)
      have hb : numL (s.data.toList.drop k) < 18446744073709551616 := numL_lt8 _ (by rw [List.length_drop, ← size_list]; omega)
      have hnum : numL (s.data.toList.drop k) = s[k].toNat + 256 * numL (s.data.toList.drop (k + 1)) := by rw [hdr.out]; rfl
      have HN := Lib.hid hnum
      clear hnum
      have hb2 : 256 * numL (s.data.toList.drop (k + 1)) + s[k].toNat < 18446744073709551616 := by have := HN.out; omega
      clear hb
      go_wp2
      go_round
      case rel => exact ⟨k, by omega, rfl, by rw [HN.out]; go_num⟩
      case measure => simp [intOf]

theorem layL_snoc : ∀ (k x : Nat), layL x (k + 1) = layL x k ++ [UInt8.ofNat (x / 256 ^ k % 256)]
  | 0, x => by simp [layL]
  | k + 1, x => by
    rw [layL, layL_snoc k, layL, List.cons_append, Nat.div_div_eq_div_mul, Nat.pow_succ, Nat.mul_comm (256 ^ k) 256]
theorem append_list (s : ByteArray) (z : List UInt8) : s ++ { data := z.toArray } = (⟨(s.data.toList ++ z).toArray⟩ : ByteArray) := by
  apply ByteArray.ext
  simp

theorem refLay_any (x n : Nat) (w : World) (hx : x < 18446744073709551616) (hn : n ≤ 100) :
    Calls Try.prog 41 #[.int .u64 x, .int .i64 n] w fun e w' => e = .returned (.string ⟨(layL x n).toArray⟩) ∧ Below w.heap.size w w' := by
  have hcv : ∀ (w : World) (a : Int), (convert 88 9 (.slice (some ⟨w.heap.size, 0, none⟩) 1 1)).run Try.prog (w.alloc (.cells #[.int .u8 a] 5)) = .ok (.string ⟨#[UInt8.ofNat a.toNat]⟩) (w.alloc (.cells #[.int .u8 a] 5)) :=
    fun w a => conv_new w [a] 1 rfl
  go_enter Try.func41, Try.ntmps41
  go_wp2_with fail
  go_loopw [0, 5, 6] (fun y s i wx => ∃ j X : Nat, ∃ l : List UInt8, j ≤ n ∧ i = .int .i64 j ∧ y = .int .u64 X ∧ s = .string ⟨l.toArray⟩ ∧ X < 18446744073709551616 ∧ l.length ≤ 100 ∧ Hid (X = x / 256 ^ j ∧ l = layL x j) ∧ Below w.heap.size w wx) (fun _ _ i _ => n - (intOf i).toNat)
  case atStart => exact ⟨0, x, [], Nat.zero_le _, rfl, rfl, rfl, hx, by simp, Lib.hid ⟨by simp, rfl⟩, Below.refl _ _⟩
  case round =>
    obtain ⟨j, X, l, hj, rfl, rfl, rfl, hX, hl, HX, hb⟩ := hrel
    by_cases hlt : j < n
    · have hll : l.length + 1 ≤ 100 := by rw [HX.out.2, layL_length]; omega
      go_wp2
      refine ⟨⟨j + 1, X / 256, l ++ [UInt8.ofNat (X % 256)], by omega, by go_num, by go_num, ?_, by omega, by simpa using hll, Lib.hid ⟨?_, ?_⟩, hb.alloc hb.size _⟩, by simp [intOf]; omega⟩
      · exact congrArg Value.string (append_list ⟨l.toArray⟩ [UInt8.ofNat (X % 256)])
      · rw [HX.out.1, Nat.div_div_eq_div_mul, Nat.pow_succ]
      · rw [layL_snoc, HX.out.1, HX.out.2]
    · have hjn : n = j := by omega
      have HJ := Lib.hid hjn
      clear hjn
      go_wp2
      go_ret
      refine ⟨?_, hb⟩
      have e : l = layL x n := by rw [HJ.out]; exact HX.out.2
      rw [← e]; rfl

theorem refU32_any (n : Nat) (w : World) (hn : n < 4294967296) :
    Calls Try.prog 26 #[.int .i64 n] w fun e w' => e = .returned (.string ⟨(layL n 4).toArray⟩) ∧ Below w.heap.size w w' := by
  go_enter Try.func26, Try.ntmps26
  go_wp2_with fail
  refine (refLay_any n 4 _ (by omega) (by omega)).mono ?_
  rintro e w' ⟨rfl, hb⟩
  go_wp2
  go_ret
  exact ⟨rfl, hb⟩
theorem refU32_none (n : Int) (w : World) (hn : n < 0 ∨ 4294967295 < n) :
    Calls Try.prog 26 #[.int .i64 n] w fun e w' => e = .returned (.string ⟨#[]⟩) ∧ w = w' := by
  rcases hn with hn | hn
  · go_enter Try.func26, Try.ntmps26
    go_wp2
    go_ret
    exact ⟨rfl, rfl⟩
  · have h0 : ¬ n < 0 := by omega
    go_enter Try.func26, Try.ntmps26
    go_wp2
    go_ret
    exact ⟨rfl, rfl⟩
theorem refPad_out (s : ByteArray) (t : Int) (w : World) (h : t < 1 ∨ 4096 < t) :
    Calls Try.prog 27 #[.string s, .int .i64 t] w fun e w' => e = .returned (.string s) ∧ w = w' := by
  rcases h with h | h
  · go_enter Try.func27, Try.ntmps27
    go_wp2
    go_ret
    exact ⟨rfl, rfl⟩
  · have h0 : ¬ t < 1 := by omega
    go_enter Try.func27, Try.ntmps27
    go_wp2
    go_ret
    exact ⟨rfl, rfl⟩
theorem mod_step (a j k : Nat) (hk : 1 ≤ k) (hj : j < (k - a % k) % k) : (a + j) % k ≠ 0 := by
  have hr : a % k < k := Nat.mod_lt _ hk
  have h1 : a % k ≠ 0 := by intro h; rw [h, Nat.sub_zero, Nat.mod_self] at hj; omega
  rw [Nat.mod_eq_of_lt (by omega)] at hj
  rw [Nat.add_mod, Nat.mod_eq_of_lt (a := j) (by omega), Nat.mod_eq_of_lt (by omega)]
  omega
theorem mod_stop (a k : Nat) (hk : 1 ≤ k) : (a + (k - a % k) % k) % k = 0 := by
  have hr : a % k < k := Nat.mod_lt _ hk
  by_cases h1 : a % k = 0
  · rw [h1, Nat.sub_zero, Nat.mod_self, Nat.add_zero, h1]
  · rw [Nat.mod_eq_of_lt (a := k - a % k) (by omega), Nat.add_mod, Nat.mod_eq_of_lt (a := k - a % k) (by omega)]
    rw [show a % k + (k - a % k) = k by omega, Nat.mod_self]
theorem refPad_any (s : ByteArray) (k : Nat) (w : World) (hs : s.size ≤ 1099511627776) (h1 : 1 ≤ k) (h2 : k ≤ 4096) :
    Calls Try.prog 27 #[.string s, .int .i64 k] w fun e w' => e = .returned (.string ⟨(s.data.toList ++ List.replicate ((k - s.size % k) % k) 0).toArray⟩) ∧ w = w' := by
  generalize hN : (k - s.size % k) % k = N
  have hNk : N < k := by rw [← hN]; exact Nat.mod_lt _ (by omega)
  have HN := Lib.hid hN
  clear hN
  have hk1 : ((k : Int) < 1) = False := by simp; omega
  go_enter Try.func27, Try.ntmps27
  go_wp2_with fail
  go_loop [0] (fun t => ∃ (j : Nat) (l : List UInt8), j ≤ N ∧ t = .string ⟨l.toArray⟩ ∧ l.length ≤ 1099511631872 ∧ Hid (l = s.data.toList ++ List.replicate j 0)) (fun t => match t with | .string u => s.size + N - u.size | _ => 0)
  case atStart => exact ⟨0, s.data.toList, Nat.zero_le _, rfl, by rw [← size_list]; omega, Lib.hid (by simp)⟩
  case round =>
    obtain ⟨j, l, hj, rfl, hl, HL⟩ := hrel
    have hll : l.length = s.size + j := by rw [HL.out, List.length_append, List.length_replicate, ← size_list]
    have HLL := Lib.hid hll
    by_cases hlt : j < N
    · have hne : ((l.length : Int) % (k : Int) != 0) = true := by
        rw [hll, bne_iff_ne]
        have := mod_step s.size j k h1 (by rw [HN.out]; exact hlt)
        omega
      clear hll
      go_wp2
      have hsz : (({ data := l.toArray } : ByteArray) ++ { data := #[0] }).size = l.length + 1 := by
        rw [ByteArray.size_append]; rfl
      have hs0 : ({ data := l.toArray } : ByteArray).size = l.length := rfl
      refine ⟨⟨j + 1, l ++ [0], by omega, ?_, ?_, Lib.hid ?_⟩, ?_⟩
      · exact congrArg Value.string (append_list ⟨l.toArray⟩ [0])
      · have := HLL.out
        rw [List.length_append, List.length_singleton]; omega
      · rw [HL.out, List.append_assoc, List.replicate_succ']
      · have := HLL.out
        simp only [hsz, hs0]; omega
    · have hne : ((l.length : Int) % (k : Int) != 0) = false := by
        have e : j = N := by omega
        have := mod_stop s.size k h1
        rw [HN.out, ← e] at this
        rw [hll]
        simp only [bne_eq_false_iff_eq]
        omega
      clear hll
      have e : l = s.data.toList ++ List.replicate N 0 := by rw [HL.out, show j = N by omega]
      have HE := Lib.hid e
      clear e
      go_wp2
      go_ret
      refine ⟨?_, rfl⟩
      rw [← HE.out]; rfl
end Go.Proofs.Ythpifplflhhkiaa
