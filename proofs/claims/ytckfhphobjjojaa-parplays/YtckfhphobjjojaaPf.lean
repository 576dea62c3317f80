/-
  par.Blank, the document's Zeros and Even, polderlaw03.few: what they answer.
-/
import Derived.Test.YtckfhphobjjojaaPe
namespace Go.Proofs.Ytckfhphobjjojaa
open Go.RowKit M

theorem take_snoc (s : ByteArray) (k : Nat) (h : k < s.size) : s.data.toList.take (k + 1) = s.data.toList.take k ++ [s[k]] := by
  rw [List.take_succ_eq_append_getElem (by simpa using h)]; rfl
theorem blank_no (s : ByteArray) (k : Nat) (h : k < s.size) (hz : s[k] ≠ 0) : blankB s = false := by
  cases e : blankB s with
  | false => rfl
  | true =>
    rw [blankB, List.all_eq_true] at e
    have := e s[k] (by simp [ByteArray.getElem_eq_getElem_data])
    exact absurd (by simpa using this) hz

set_option maxHeartbeats 1000000 in
theorem blank_any (s : ByteArray) (w : World) (hs : s.size ≤ maxLen) (b : Bool) (hb : blankB s = b) :
    Calls Try.prog 14 #[.string s] w fun e w' => e = .returned (.bool b) ∧ w = w' := by
  unfold maxLen at hs
  have HB := Lib.hid hb
  clear hb
  go_enter Try.func14, Try.ntmps14
  go_wp2_with fail
  go_loop [6] (fun i => ∃ k : Nat, k ≤ s.size ∧ i = .int .i64 k ∧ Hid ((s.data.toList.take k).all (· == 0) = true)) (fun i => s.size - (intOf i).toNat)
  case atStart => exact ⟨0, Nat.zero_le _, rfl, Lib.hid rfl⟩
  case round =>
    obtain ⟨k, hk, rfl, H⟩ := hrel
    by_cases hlt : k < s.size
    · have hts := Lib.hid (take_snoc s k hlt)
      by_cases hz : s[k] = 0
      · have hz' : ((s[k].toNat : Int) != 0) = false := by rw [hz]; rfl
        have HZ := Lib.hid hz
        clear hz
        go_wp2
        go_round
        case rel => exact ⟨k + 1, by omega, by go_num, Lib.hid (by rw [hts.out]; simp only [List.all_append, H.out, HZ.out]; rfl)⟩
        case measure => simp [intOf]; omega
      · have hz' : ((s[k].toNat : Int) != 0) = true := by
          rw [bne_iff_ne]; intro e; apply hz; apply UInt8.toNat_inj.1; simpa using e
        have HZ := Lib.hid hz
        clear hz
        go_wp2
        go_ret
        refine ⟨?_, rfl⟩
        have := HB.out
        rw [blank_no s k hlt HZ.out] at this
        rw [← this]; rfl
    · go_wp2
      go_ret
      refine ⟨?_, rfl⟩
      have := HB.out
      rw [blankB, ← List.take_of_length_le (l := s.data.toList) (i := k) (by simp; omega), H.out] at this
      rw [← this]; rfl
set_option maxHeartbeats 1000000 in
theorem refZeros_any (s : ByteArray) (w : World) (hs : s.size ≤ maxLen) (b : Bool) (hb : blankB s = b) :
    Calls Try.prog 16 #[.string s] w fun e w' => e = .returned (.bool b) ∧ w = w' := by
  unfold maxLen at hs
  have HB := Lib.hid hb
  clear hb
  go_enter Try.func16, Try.ntmps16
  go_wp2_with fail
  go_loop [3] (fun i => ∃ k : Nat, k ≤ s.size ∧ i = .int .i64 k ∧ Hid ((s.data.toList.take k).all (· == 0) = true)) (fun i => s.size - (intOf i).toNat)
  case atStart => exact ⟨0, Nat.zero_le _, rfl, Lib.hid rfl⟩
  case round =>
    obtain ⟨k, hk, rfl, H⟩ := hrel
    by_cases hlt : k < s.size
    · have hts := Lib.hid (take_snoc s k hlt)
      by_cases hz : s[k] = 0
      · have hz' : ((s[k].toNat : Int) != 0) = false := by rw [hz]; rfl
        have HZ := Lib.hid hz
        clear hz
        go_wp2
        go_round
        case rel => exact ⟨k + 1, by omega, by go_num, Lib.hid (by rw [hts.out]; simp only [List.all_append, H.out, HZ.out]; rfl)⟩
        case measure => simp [intOf]; omega
      · have hz' : ((s[k].toNat : Int) != 0) = true := by
          rw [bne_iff_ne]; intro e; apply hz; apply UInt8.toNat_inj.1; simpa using e
        have HZ := Lib.hid hz
        clear hz
        go_wp2
        go_ret
        refine ⟨?_, rfl⟩
        have := HB.out
        rw [blank_no s k hlt HZ.out] at this
        rw [← this]; rfl
    · go_wp2
      go_ret
      refine ⟨?_, rfl⟩
      have := HB.out
      rw [blankB, ← List.take_of_length_le (l := s.data.toList) (i := k) (by simp; omega), H.out] at this
      rw [← this]; rfl

/-- What few adds up. -/
def fewN (l : List ByteArray) : Nat := (l.map fun s => min s.size 10000).sum
def fewL (l : List ByteArray) : Bool := decide (l.length < 30) && decide (fewN (l.take 30) ≤ 4000)
theorem few_short {l : List ByteArray} (h : fewL l = true) : l.length < 30 ∧ ∀ s ∈ l, s.size ≤ 4000 := by
  simp only [fewL, Bool.and_eq_true, decide_eq_true_eq] at h
  obtain ⟨h1, h2⟩ := h
  refine ⟨h1, fun s hs => ?_⟩
  rw [List.take_of_length_le (by omega)] at h2
  clear h1
  unfold fewN at h2
  induction l with
  | nil => cases hs
  | cons t r ih =>
    simp only [List.map_cons, List.sum_cons] at h2
    rcases List.mem_cons.1 hs with rfl | hs
    · omega
    · exact ih (by omega) hs
theorem fewN_snoc (l : List ByteArray) (k : Nat) (h : k < l.length) : fewN (l.take (k + 1)) = fewN (l.take k) + min l[k].size 10000 := by
  unfold fewN
  rw [List.take_succ_eq_append_getElem h, List.map_append, List.sum_append]
  simp only [List.map_cons, List.map_nil, List.sum_cons, List.sum_nil, Nat.add_zero]
theorem fewN_le (l : List ByteArray) (k : Nat) (hk : k ≤ 30) : fewN (l.take k) ≤ 300000 := by
  have : ∀ m : List ByteArray, fewN m ≤ 10000 * m.length := by
    intro m
    unfold fewN
    induction m with
    | nil => simp
    | cons t r ih => simp only [List.map_cons, List.sum_cons, List.length_cons]; omega
  have h2 := this (l.take k)
  rw [List.length_take] at h2
  omega

set_option maxHeartbeats 1000000 in
theorem few_any (l : List ByteArray) (v : Value) (w : World) (h : Txt w v l) (hm : l.length ≤ maxLen) (hz : ∀ s ∈ l, s.size ≤ maxLen) (b : Bool) (hb : fewL l = b) :
    Calls Try.prog 9 #[v] w fun e w' => e = .returned (.bool b) ∧ w = w' := by
  unfold maxLen at hm hz
  have HB := Lib.hid hb
  clear hb
  obtain ⟨a, c, rfl, hcc, hj⟩ := h
  have HJ := Lib.hid hj
  have HZ := Lib.hid hz
  clear hj hz
  generalize hn : l.length = n at hm hcc
  have HN := Lib.hid hn
  clear hn
  go_enter Try.func9, Try.ntmps9
  go_wp2_with fail
  go_loop [3, 4] (fun x i => ∃ (k N : Nat), k ≤ n ∧ k ≤ 30 ∧ N ≤ 300000 ∧ i = .int .i64 k ∧ x = .int .i64 N ∧ Hid (fewN (l.take k) = N)) (fun _ i => n - (intOf i).toNat)
  case atStart => exact ⟨0, 0, Nat.zero_le _, by omega, by omega, rfl, rfl, Lib.hid rfl⟩
  case round =>
    obtain ⟨k, N, hk, hk30, hN, rfl, rfl, H⟩ := hrel
    by_cases hlt : k < n
    · by_cases h30 : k < 30
      · have hlt' : k < l.length := by rw [HN.out]; exact hlt
        obtain ⟨g, o, rfl, hg, hck⟩ := HJ.out k hlt'
        have hsk : l[k].size ≤ 9223372036854775807 := HZ.out _ (List.getElem_mem hlt')
        have hsn := fewN_snoc l k hlt'
        have hle := fewN_le l (k + 1) (by omega)
        generalize l[k] = s at hck hsk hsn
        generalize hM : fewN (l.take (k + 1)) = M at hsn hle
        have HM := Lib.hid hM
        rw [H.out] at hsn
        have HS := Lib.hid hsn
        clear hM hlt' hsn
        by_cases h10 : s.size < 10000
        · have HS' : Hid (N + s.size = M) := Lib.hid (by have := HS.out; omega)
          clear HS
          go_wp2
          go_round
          case rel =>
            have := HS'.out
            refine ⟨k + 1, M, by omega, by omega, hle, by go_num, ?_, HM⟩
            go_num
          case measure => simp [intOf]; omega
        · have HS' : Hid (N + 10000 = M) := Lib.hid (by have := HS.out; omega)
          clear HS
          go_wp2
          go_round
          case rel =>
            have := HS'.out
            refine ⟨k + 1, M, by omega, by omega, hle, by go_num, ?_, HM⟩
            go_num
          case measure => simp [intOf]; omega
      · obtain rfl : k = 30 := by omega
        have HB' : Hid (false = b) := Lib.hid (by
          rw [← HB.out, fewL, HN.out]
          simp; omega)
        go_wp2
        go_ret
        exact ⟨by rw [← HB'.out]; rfl, rfl⟩
    · obtain rfl : k = n := by omega
      have HB' : Hid ((decide (k < 30) && decide (N ≤ 4000)) = b) := Lib.hid (by
        rw [← HB.out, fewL, HN.out, ← H.out, List.take_of_length_le (by rw [HN.out]; omega), List.take_of_length_le (by rw [HN.out]; omega)])
      by_cases h30 : k < 30
      · by_cases h4 : N ≤ 4000
        · go_wp2
          go_ret
          exact ⟨by rw [← HB'.out]; simp [h30, h4]; omega, rfl⟩
        · go_wp2
          go_ret
          exact ⟨by rw [← HB'.out]; simp [h4]; omega, rfl⟩
      · go_wp2
        go_ret
        exact ⟨by rw [← HB'.out]; simp [h30], rfl⟩
end Go.Proofs.Ytckfhphobjjojaa
