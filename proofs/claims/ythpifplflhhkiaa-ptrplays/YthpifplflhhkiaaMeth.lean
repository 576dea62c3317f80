/-
  What the methods of le's Bytes answer, and what they leave behind: 'Has w b s': block b is a Bytes of which s is left.
-/
import Derived.Test.YthpifplflhhkiaaLay
namespace Go.Proofs.Ythpifplflhhkiaa
set_option maxRecDepth 100000
open Go.RowKit M

theorem number_none (w : World) : Calls Try.prog 38 #[.string ⟨#[]⟩] w fun e w' => e = .returned (.int .u64 0) ∧ w = w' :=
  number_any ⟨#[]⟩ w (by decide)

/-- Block b is a Bytes of which s is left. -/
def Has (w : World) (b : Nat) (s : ByteArray) : Prop :=
  w.cell? ⟨b, 0, none⟩ = some (.string s) ∧ w.frozen? ⟨b, 0, none⟩ = false ∧ b < w.heap.size

/-- The bytes of s from n on. -/
def tailB (s : ByteArray) (n : Nat) : ByteArray := s.extract n s.size
/-- The first n bytes of s. -/
def headB (s : ByteArray) (n : Nat) : ByteArray := s.extract 0 n

theorem Has.below {w w' : World} {b : Nat} {s : ByteArray} (h : Has w b s) {B : Nat} (hb : Below B w w') (hB : b < B) : Has w' b s :=
  ⟨by rw [hb.cell (p := ⟨b, 0, none⟩) hB]; exact h.1, by rw [hb.frozen (p := ⟨b, 0, none⟩) hB]; exact h.2.1, Nat.lt_of_lt_of_le h.2.2 hb.size⟩

theorem new_any (s : ByteArray) (w : World) :
    Calls Try.prog 22 #[.string s] w fun e w' => e = .returned (.pointer (some ⟨w.heap.size, 0, none⟩)) ∧ Has w' w.heap.size s ∧ Below w.heap.size w w' := by
  go_enter Try.func22, Try.ntmps22
  go_wp2
  go_ret
  refine ⟨rfl, ⟨?_, ?_, ?_⟩, (Below.refl _ _).alloc (Nat.le_refl _) _⟩
  · simp
  · exact World.frozen?_alloc_at _ _ _ _ rfl
  · simp

theorem left_any (b : Nat) (s : ByteArray) (w : World) (h : Has w b s) :
    Calls Try.prog 40 #[.pointer (some ⟨b, 0, none⟩)] w fun e w' => e = .returned (.int .i64 s.size) ∧ w = w' := by
  obtain ⟨hc, hf, hz⟩ := h
  go_enter Try.func40, Try.ntmps40
  go_wp2
  go_ret
  exact ⟨rfl, rfl⟩
theorem left_nil (w : World) :
    Calls Try.prog 40 #[.pointer none] w fun e w' => e = .returned (.int .i64 0) ∧ w = w' := by
  go_enter Try.func40, Try.ntmps40
  go_wp2
  go_ret
  exact ⟨rfl, rfl⟩

theorem take_neg (v : Value) (n : Int) (w : World) (h : n < 0) :
    Calls Try.prog 37 #[v, .int .i64 n] w fun e w' => e = .returned (.tuple #[.string ⟨#[]⟩, .int .i64 1]) ∧ w = w' := by
  go_enter Try.func37, Try.ntmps37
  go_wp2
  go_ret2
  exact ⟨rfl, rfl⟩
theorem take_nil (n : Int) (w : World) (h : 0 ≤ n) :
    Calls Try.prog 37 #[.pointer none, .int .i64 n] w fun e w' => e = .returned (.tuple #[.string ⟨#[]⟩, .int .i64 2]) ∧ w = w' := by
  go_enter Try.func37, Try.ntmps37
  go_wp2
  go_ret2
  exact ⟨rfl, rfl⟩
theorem take_short (b : Nat) (s : ByteArray) (n : Int) (w : World) (h : Has w b s) (hn : (s.size : Int) < n) :
    Calls Try.prog 37 #[.pointer (some ⟨b, 0, none⟩), .int .i64 n] w fun e w' => e = .returned (.tuple #[.string ⟨#[]⟩, .int .i64 2]) ∧ w = w' := by
  have h0 : 0 ≤ n := by omega
  go_enter Try.func37, Try.ntmps37
  go_wp2_with fail
  refine (left_any b s _ h).mono ?_
  rintro e w' ⟨rfl, rfl⟩
  go_wp2
  go_ret2
  exact ⟨rfl, rfl⟩
/-- Behind a Take: the world with that one cell turned. -/
def setB (w : World) (b : Nat) (s : ByteArray) : World := w.setCell ⟨b, 0, none⟩ (.string s)
theorem Has.set {w : World} {b : Nat} {s : ByteArray} (h : Has w b s) (t : ByteArray) : Has (setB w b t) b t := by
  refine ⟨?_, ?_, ?_⟩
  · rw [setB, World.cell?_setCell_same _ _ _ (by rw [h.1])]
  · simp [setB, h.2.1]
  · simp [setB, h.2.2]
theorem Has.other {w : World} {b d : Nat} {s : ByteArray} (h : Has w d s) (hne : d ≠ b) (t : ByteArray) : Has (setB w b t) d s := by
  refine ⟨?_, ?_, ?_⟩
  · rw [setB, World.cell?_of_block (w := w) (Below.heap_setCell _ _ _ _ hne)]; exact h.1
  · simp [setB, h.2.1]
  · simp [setB, h.2.2]
theorem Has.belowSet {w : World} {B b : Nat} (hB : B ≤ b) (t : ByteArray) : Below B w (setB w b t) := (Below.refl _ _).setCell hB _

theorem take_at (b : Nat) (s : ByteArray) (n : Nat) (w : World) (h : Has w b s) (hn : n ≤ s.size) :
    Calls Try.prog 37 #[.pointer (some ⟨b, 0, none⟩), .int .i64 n] w fun e w' => e = .returned (.tuple #[.string (headB s n), .int .i64 0]) ∧ setB w b (tailB s n) = w' := by
  go_enter Try.func37, Try.ntmps37
  go_wp2_with fail
  refine (left_any b s _ h).mono ?_
  rintro e w' ⟨rfl, rfl⟩
  have hc := h.1
  have hf := h.2.1
  go_wp2
  go_ret2
  exact ⟨rfl, rfl⟩
theorem take_ok (B b : Nat) (s : ByteArray) (n : Nat) (w : World) (h : Has w b s) (hB : B ≤ b) (hn : n ≤ s.size) :
    Calls Try.prog 37 #[.pointer (some ⟨b, 0, none⟩), .int .i64 n] w fun e w' => e = .returned (.tuple #[.string (headB s n), .int .i64 0]) ∧ Has w' b (tailB s n) ∧ Below B w w' :=
  (take_at b s n w h hn).mono fun _ _ ⟨he, hw⟩ => ⟨he, hw ▸ h.set _, hw ▸ Has.belowSet hB _⟩

theorem headB_list (s : ByteArray) (n : Nat) : (headB s n).data.toList = s.data.toList.take n := by
  simp [headB, ByteArray.data_extract]
theorem tailB_list (s : ByteArray) (n : Nat) : (tailB s n).data.toList = s.data.toList.drop n := by
  simp [tailB, ByteArray.data_extract]
  rw [List.take_of_length_le]
  simp
theorem size_list (s : ByteArray) : s.size = s.data.toList.length := by
  rw [Array.length_toList]; rfl
theorem headB_size (s : ByteArray) (n : Nat) (h : n ≤ s.size) : (headB s n).size = n := by
  rw [size_list, headB_list, List.length_take, ← size_list]; omega
theorem tailB_size (s : ByteArray) (n : Nat) : (tailB s n).size = s.size - n := by
  rw [size_list, tailB_list, List.length_drop, ← size_list]
theorem ext_list {s t : ByteArray} (h : s.data.toList = t.data.toList) : s = t := by
  apply ByteArray.ext; exact Array.ext' h

/-- Reading a small number: four bytes are left. -/
theorem mU32_ok (B b : Nat) (s : ByteArray) (w : World) (h : Has w b s) (hB : B ≤ b) (hn : 4 ≤ s.size) :
    Calls Try.prog 23 #[.pointer (some ⟨b, 0, none⟩)] w fun e w' => e = .returned (.tuple #[.int .i64 (numL (s.data.toList.take 4) : Nat), .int .i64 0]) ∧ Has w' b (tailB s 4) ∧ Below B w w' := by
  have hl : numL (s.data.toList.take 4) < 4294967296 := by
    have h1 := numL_lt (s.data.toList.take 4)
    have h2 : (s.data.toList.take 4).length = 4 := by rw [List.length_take, ← size_list]; omega
    rw [h2] at h1
    exact h1
  go_enter Try.func23, Try.ntmps23
  go_wp2_with fail
  refine (take_ok B b s 4 _ h hB hn).mono ?_
  rintro e w1 ⟨rfl, h1, b1⟩
  go_wp2_with fail
  refine (number_any (headB s 4) _ (by rw [headB_size s 4 hn]; omega)).mono ?_
  rw [headB_list]
  rintro e w2 ⟨rfl, rfl⟩
  generalize hx : numL (s.data.toList.take 4) = x at hl
  have HX := Lib.hid hx
  clear hx
  go_wp2
  go_ret2
  exact ⟨by rw [HX.out]; rfl, h1, b1⟩
theorem mU32_short (b : Nat) (s : ByteArray) (w : World) (h : Has w b s) (hn : s.size < 4) :
    Calls Try.prog 23 #[.pointer (some ⟨b, 0, none⟩)] w fun e w' => e = .returned (.tuple #[.int .i64 0, .int .i64 2]) ∧ w = w' := by
  go_enter Try.func23, Try.ntmps23
  go_wp2_with fail
  refine (take_short b s 4 _ h (by omega)).mono ?_
  rintro e w1 ⟨rfl, rfl⟩
  go_wp2_with fail
  refine (number_none _).mono ?_
  rintro e w2 ⟨rfl, rfl⟩
  go_wp2
  go_ret2
  exact ⟨rfl, rfl⟩
theorem mU32_nil (w : World) :
    Calls Try.prog 23 #[.pointer none] w fun e w' => e = .returned (.tuple #[.int .i64 0, .int .i64 2]) ∧ w = w' := by
  go_enter Try.func23, Try.ntmps23
  go_wp2_with fail
  refine (take_nil 4 _ (by omega)).mono ?_
  rintro e w1 ⟨rfl, rfl⟩
  go_wp2_with fail
  refine (number_none _).mono ?_
  rintro e w2 ⟨rfl, rfl⟩
  go_wp2
  go_ret2
  exact ⟨rfl, rfl⟩

/-- Reading a wide number: eight bytes are left. -/
theorem mU64_at (b : Nat) (s : ByteArray) (w : World) (h : Has w b s) (hn : 8 ≤ s.size) :
    Calls Try.prog 39 #[.pointer (some ⟨b, 0, none⟩)] w fun e w' => e = .returned (.tuple #[.int .u64 (numL (s.data.toList.take 8) : Nat), .int .i64 0]) ∧ setB w b (tailB s 8) = w' := by
  go_enter Try.func39, Try.ntmps39
  go_wp2_with fail
  refine (take_at b s 8 _ h hn).mono ?_
  rintro e w1 ⟨rfl, h1⟩
  have H1 := Lib.hid h1
  clear h1
  go_wp2_with fail
  refine (number_any (headB s 8) _ (by rw [headB_size s 8 hn]; omega)).mono ?_
  rw [headB_list]
  rintro e w2 ⟨rfl, rfl⟩
  generalize hx : numL (s.data.toList.take 8) = x
  have HX := Lib.hid hx
  clear hx
  go_wp2
  go_ret2
  exact ⟨by rw [HX.out]; rfl, H1.out⟩
theorem mU64_ok (B b : Nat) (s : ByteArray) (w : World) (h : Has w b s) (hB : B ≤ b) (hn : 8 ≤ s.size) :
    Calls Try.prog 39 #[.pointer (some ⟨b, 0, none⟩)] w fun e w' => e = .returned (.tuple #[.int .u64 (numL (s.data.toList.take 8) : Nat), .int .i64 0]) ∧ Has w' b (tailB s 8) ∧ Below B w w' :=
  (mU64_at b s w h hn).mono fun _ _ ⟨he, hw⟩ => ⟨he, hw ▸ h.set _, hw ▸ Has.belowSet hB _⟩
theorem mU64_short (b : Nat) (s : ByteArray) (w : World) (h : Has w b s) (hn : s.size < 8) :
    Calls Try.prog 39 #[.pointer (some ⟨b, 0, none⟩)] w fun e w' => e = .returned (.tuple #[.int .u64 0, .int .i64 2]) ∧ w = w' := by
  go_enter Try.func39, Try.ntmps39
  go_wp2_with fail
  refine (take_short b s 8 _ h (by omega)).mono ?_
  rintro e w1 ⟨rfl, rfl⟩
  go_wp2_with fail
  refine (number_none _).mono ?_
  rintro e w2 ⟨rfl, rfl⟩
  go_wp2
  go_ret2
  exact ⟨rfl, rfl⟩
theorem mU64_nil (w : World) :
    Calls Try.prog 39 #[.pointer none] w fun e w' => e = .returned (.tuple #[.int .u64 0, .int .i64 2]) ∧ w = w' := by
  go_enter Try.func39, Try.ntmps39
  go_wp2_with fail
  refine (take_nil 8 _ (by omega)).mono ?_
  rintro e w1 ⟨rfl, rfl⟩
  go_wp2_with fail
  refine (number_none _).mono ?_
  rintro e w2 ⟨rfl, rfl⟩
  go_wp2
  go_ret2
  exact ⟨rfl, rfl⟩

/-- Are all bytes zero? -/
def zerosB (s : ByteArray) : Bool := s.data.toList.all (· == 0)
theorem zeros_nil (w : World) :
    Calls Try.prog 25 #[.pointer none] w fun e w' => e = .returned (.bool true) ∧ w = w' := by
  go_enter Try.func25, Try.ntmps25
  go_wp2_with fail
  refine (left_nil _).mono ?_
  rintro e w1 ⟨rfl, rfl⟩
  go_wp2
  refine wp_loop_rounds 1 ?_
  rw [rounds_succ]
  go_wp2
  go_ret
  exact ⟨rfl, rfl⟩
theorem take_snocB (s : ByteArray) (k : Nat) (h : k < s.size) : s.data.toList.take (k + 1) = s.data.toList.take k ++ [s[k]] := by
  rw [List.take_succ_eq_append_getElem (by simpa using h)]; rfl
theorem zeros_any (b : Nat) (s : ByteArray) (w : World) (h : Has w b s) (hs : s.size ≤ maxLen) :
    Calls Try.prog 25 #[.pointer (some ⟨b, 0, none⟩)] w fun e w' => e = .returned (.bool (zerosB s)) ∧ w = w' := by
  unfold maxLen at hs
  have hce := h.1
  go_enter Try.func25, Try.ntmps25
  go_wp2_with fail
  refine (left_any b s _ h).mono ?_
  rintro e w1 ⟨rfl, rfl⟩
  clear h
  go_wp2_with fail
  go_loop [6] (fun i => ∃ k : Nat, k ≤ s.size ∧ i = .int .i64 k ∧ Hid ((s.data.toList.take k).all (· == 0) = true)) (fun i => s.size - (intOf i).toNat)
  case atStart => exact ⟨0, Nat.zero_le _, rfl, Lib.hid rfl⟩
  case round =>
    obtain ⟨k, hk, rfl, H⟩ := hrel
    by_cases hlt : k < s.size
    · have hts := Lib.hid (take_snocB s k hlt)
      by_cases hz : s[k] = 0
      · have hz' : ((s[k].toNat : Int) != 0) = false := by rw [hz]; rfl
        have HZ := Lib.hid hz
        clear hz
        go_wp2
        go_round
        case rel => exact ⟨k + 1, by omega, by go_num, Lib.hid (by rw [hts.out]; simp only [List.all_append, H.out, HZ.out]; rfl)⟩
        case measure => simp [intOf]; omega
      · have hz' : ((s[k].toNat : Int) != 0) = true := by
          rw [bne_iff_ne]; intro e; apply hz; apply UInt8.toNat_inj.1; simpa using e
        have HZ := Lib.hid hz
        clear hz
        go_wp2
        go_ret
        refine ⟨?_, rfl⟩
        have : zerosB s = false := by
          unfold zerosB
          rw [List.all_eq_false]
          exact ⟨s[k], by rw [← List.take_append_drop (k + 1) s.data.toList, hts.out]; simp, by simpa using HZ.out⟩
        rw [this]; rfl
    · go_wp2
      go_ret
      refine ⟨?_, rfl⟩
      have : zerosB s = true := by
        have h := H.out
        rwa [List.take_of_length_le (by rw [← size_list]; omega)] at h
      rw [this]; rfl
end Go.Proofs.Ythpifplflhhkiaa
