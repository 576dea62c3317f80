/-
  The walk of polderlaw01.LePads: it returns true, and writes nothing that was there.
-/
import Derived.Test.YtmopopgablakaaaLawLays
namespace Go.Proofs.Ytmopopgablakaaa
open Go.RowKit M

theorem gap_mod (n k : Nat) (hk : 1 ≤ k) : (n + gap n k) % k = 0 := mod_stop n k hk
theorem gap_zero (n k : Nat) (h : n % k = 0) : gap n k = 0 := by rw [gap, h, Nat.sub_zero, Nat.mod_self]
theorem padK_same (s : ByteArray) (k : Nat) (h : s.size % k = 0) : padK s k = s :=
  ext_list (by rw [padK_list, gap_zero _ _ h]; simp)

set_option maxHeartbeats 1000000 in
theorem walk_LePads (s : ByteArray) (t : Int) (w : World) (hs : s.size ≤ maxLen) (w1 : (Lit.int .u16 t).wf = true) :
    Calls Try.prog 9 #[.string s, .int .u16 t] w fun e w' => e = .returned (.bool true) ∧ Below w.heap.size w w' := by
  unfold maxLen at hs
  obtain ⟨hx0, hx1⟩ : 0 ≤ t ∧ t ≤ 65535 := by simpa [Lit.wf, IntKind.min, IntKind.max, IntKind.signed, IntKind.bits] using w1
  clear w1
  by_cases hl : 3000 < s.size
  · go_enter Try.func9, Try.ntmps9
    go_wp2_with fail
    refine (awake_any _).mono ?_
    rintro e w1 ⟨rfl, b1⟩
    go_wp2_with fail
    refine (awake_any _).mono ?_
    rintro e w2 ⟨rfl, b2⟩
    go_wp2
    go_ret
    exact ⟨rfl, early b1 b2⟩
  · go_enter Try.func9, Try.ntmps9
    go_wp2_with fail
    refine (awake_any _).mono ?_
    rintro e w1 ⟨rfl, c1⟩
    go_wp2_with fail
    obtain ⟨k, hk⟩ := Int.eq_ofNat_of_zero_le (show 0 ≤ 1 + t % 4096 by omega)
    have hk1 : 1 ≤ k := by omega
    have hk2 : k ≤ 4096 := by omega
    rw [hk]
    clear hk hx0 hx1
    refine (pad_pos s k _ (by omega) hk1 hk2).mono ?_
    rintro e w2 ⟨rfl, b2⟩
    have c2 := early c1 b2
    clear c1 b2
    have hg := gap_lt s.size k hk1
    have hm := gap_mod s.size k hk1
    have hsz := padK_size s k
    have hhead : (padK s k).extract 0 s.size = s := ext_list (by
      have := headB_list (padK s k) s.size
      rw [headB] at this
      rw [this, padK_list, List.take_append_of_le_length (by rw [← size_list]; omega), List.take_of_length_le (by rw [← size_list]; omega)])
    have hz : zerosB ((padK s k).extract s.size (padK s k).size) = true := by
      have := tailB_list (padK s k) s.size
      rw [tailB] at this
      rw [zerosB, this, padK_list, List.drop_append_of_le_length (by rw [← size_list]; omega), List.drop_of_length_le (by rw [← size_list]; omega)]
      simp
    have hagain : padK (padK s k) k = padK s k := padK_same _ _ (by rw [hsz]; exact hm)
    rw [hsz] at hz
    generalize padK s k = T at hsz hhead hz hagain
    have HA := Lib.hid hagain
    have HZ := Lib.hid hz
    clear hagain hz
    have hmI : ((s.size : Int) + (gap s.size k : Int)) % (k : Int) = 0 := by exact_mod_cast hm
    have HM := Lib.hid hm
    clear hm
    go_wp2_with fail
    refine (refZeros_any _ _ (by rw [ByteArray.size_extract]; unfold maxLen; omega)).mono ?_
    rw [HZ.out]
    rintro e w3 ⟨rfl, rfl⟩
    go_wp2_with fail
    refine (pad_pos T k _ (by rw [hsz]; omega) hk1 hk2).mono ?_
    rw [HA.out]
    rintro e w3 ⟨rfl, b3⟩
    have c3 := early c2 b3
    clear c2 b3
    go_wp2_with fail
    refine (pad_pos s 1 _ (by omega) (by omega) (by omega)).mono ?_
    rw [padK_same s 1 (Nat.mod_one _)]
    rintro e w4 ⟨rfl, b4⟩
    have c4 := early c3 b4
    clear c3 b4
    go_wp2
    go_ret
    exact ⟨rfl, c4⟩
end Go.Proofs.Ytmopopgablakaaa
