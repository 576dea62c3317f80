/-
  What le's U32, U64, Int and Pad answer, and that the document's two examples hold ('awake').
-/
import Derived.Test.YthpifplflhhkiaaLay
import Derived.Test.YthpifplflhhkiaaShelf
namespace Go.Proofs.Ythpifplflhhkiaa
set_option maxRecDepth 100000
open Go.RowKit M

theorem u64_any (x : Nat) (w : World) (hx : x < 18446744073709551616) :
    Calls Try.prog 36 #[.int .u64 x] w fun e w' => e = .returned (.string ⟨(layL x 8).toArray⟩) ∧ Below w.heap.size w w' := by
  go_enter Try.func36, Try.ntmps36
  go_wp2_with fail
  refine (lay8 x _ hx).mono ?_
  rintro e w' ⟨rfl, hb⟩
  go_wp2
  go_ret
  exact ⟨rfl, hb⟩

theorem u32_any (n : Nat) (w : World) (hn : n < 4294967296) :
    Calls Try.prog 34 #[.int .i64 n] w fun e w' => e = .returned (.string ⟨(layL n 4).toArray⟩) ∧ Below w.heap.size w w' := by
  go_enter Try.func34, Try.ntmps34
  go_wp2_with fail
  refine (lay4 n _ hn).mono ?_
  rintro e w' ⟨rfl, hb⟩
  go_wp2
  go_ret
  exact ⟨rfl, hb⟩

theorem u32_none (n : Int) (w : World) (hn : n < 0 ∨ 4294967295 < n) :
    Calls Try.prog 34 #[.int .i64 n] w fun e w' => e = .returned (.string ⟨#[]⟩) ∧ w = w' := by
  rcases hn with hn | hn
  · go_enter Try.func34, Try.ntmps34
    go_wp2
    go_ret
    exact ⟨rfl, rfl⟩
  · have h0 : ¬ n < 0 := by omega
    go_enter Try.func34, Try.ntmps34
    go_wp2
    go_ret
    exact ⟨rfl, rfl⟩

theorem pad_out (s : ByteArray) (t : Int) (w : World) (h : t < 1 ∨ 4096 < t) :
    Calls Try.prog 20 #[.string s, .int .i64 t] w fun e w' => e = .returned (.string s) ∧ w = w' := by
  rcases h with h | h
  · go_enter Try.func20, Try.ntmps20
    go_wp2
    go_ret
    exact ⟨rfl, rfl⟩
  · have h0 : ¬ t < 1 := by omega
    go_enter Try.func20, Try.ntmps20
    go_wp2
    go_ret
    exact ⟨rfl, rfl⟩

theorem pad_even (s : ByteArray) (k : Nat) (w : World) (hs : s.size ≤ maxLen) (h1 : 1 ≤ k) (h2 : k ≤ 4096) (hm : s.size % k = 0) :
    Calls Try.prog 20 #[.string s, .int .i64 k] w fun e w' => e = .returned (.string s) ∧ w = w' := by
  unfold maxLen at hs
  go_enter Try.func20, Try.ntmps20
  go_wp2
  go_ret
  exact ⟨rfl, rfl⟩
theorem pad_odd (s : ByteArray) (k r : Nat) (w : World) (hs : s.size ≤ 1099511627776) (h1 : 1 ≤ k) (h2 : k ≤ 4096) (hm : s.size % k = r) (hr : 0 < r) :
    Calls Try.prog 20 #[.string s, .int .i64 k] w fun e w' => e = .returned (.string ⟨(s.data.toList ++ List.replicate (k - r) 0).toArray⟩) ∧ Below w.heap.size w w' := by
  have hrk : r < k := by rw [← hm]; exact Nat.mod_lt _ (by omega)
  have e1 : (s.size : Int) % (k : Int) = (r : Int) := by rw [← hm]; simp
  have he : (k : Int) - (s.size : Int) % (k : Int) = ((k - r : Nat) : Int) := by rw [e1]; omega
  have HE := Lib.hid he
  clear he e1
  go_enter Try.func20, Try.ntmps20
  go_wp2_with fail
  rw [HE.out]
  refine (Try.strings_Repeat ⟨#[0]⟩ (k - r) _ (by omega) (by show 1 * (k - r) ≤ _; omega)).mono ?_
  rintro e w' ⟨rfl, hb⟩
  have hz : Lib.repeatL (ByteArray.mk #[0]).data.toList (k - r) = List.replicate (k - r) 0 := by
    have := Lib.repeatL_replicate 0 1 (k - r)
    simpa using this
  have hzl : (Lib.repeatL (ByteArray.mk #[0]).data.toList (k - r)).length ≤ 4096 := by rw [hz]; simp; omega
  generalize Lib.repeatL (ByteArray.mk #[0]).data.toList (k - r) = z at hz hzl
  have HZ := Lib.hid hz
  clear hz HE
  go_wp2
  go_ret
  refine ⟨?_, hb⟩
  rw [← HZ.out]
  have e : s ++ { data := z.toArray } = (⟨(s.data.toList ++ z).toArray⟩ : ByteArray) := by
    apply ByteArray.ext
    simp
  rw [← e]
  rfl

theorem u32_258 (w : World) : Calls Try.prog 34 #[.int .i64 258] w fun e w' => e = .returned (.string ⟨#[2, 1, 0, 0]⟩) ∧ Below w.heap.size w w' :=
  u32_any 258 w (by omega)
theorem pad_abcde (w : World) : Calls Try.prog 20 #[.string ⟨#[97, 98, 99, 100, 101]⟩, .int .i64 4] w fun e w' => e = .returned (.string ⟨#[97, 98, 99, 100, 101, 0, 0, 0]⟩) ∧ Below w.heap.size w w' :=
  pad_odd ⟨#[97, 98, 99, 100, 101]⟩ 4 1 w (by decide) (by decide) (by decide) (by decide) (by decide)

end Go.Proofs.Ythpifplflhhkiaa
