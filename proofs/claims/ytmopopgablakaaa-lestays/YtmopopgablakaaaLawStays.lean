/-
  The walk of polderlaw01.LeStays: it returns true, and writes nothing that was there.
-/
import Derived.Test.YtmopopgablakaaaLawLays
namespace Go.Proofs.Ytmopopgablakaaa
open Go.RowKit M

set_option maxHeartbeats 1000000 in
theorem walk_LeStays (s : ByteArray) (n : Int) (w : World) (hs : s.size ≤ maxLen) (_w1 : (Lit.int .i64 n).wf = true) :
    Calls Try.prog 10 #[.string s, .int .i64 n] w fun e w' => e = .returned (.bool true) ∧ Below w.heap.size w w' := by
  unfold maxLen at hs
  by_cases hl : 3000 < s.size
  · go_enter Try.func10, Try.ntmps10
    go_wp2_with fail
    refine (awake_any _).mono ?_
    rintro e w1 ⟨rfl, b1⟩
    go_wp2_with fail
    refine (awake_any _).mono ?_
    rintro e w2 ⟨rfl, b2⟩
    go_wp2
    go_ret
    exact ⟨rfl, early b1 b2⟩
  · go_enter Try.func10, Try.ntmps10
    go_wp2_with fail
    refine (awake_any _).mono ?_
    rintro e w1 ⟨rfl, c1⟩
    go_wp2_with fail
    refine (new_any s _).mono ?_
    rintro e w2 ⟨rfl, h2, b2⟩
    have c2 := early c1 b2
    have hb : w.heap.size ≤ w1.heap.size := c1.size
    clear b2 c1
    generalize w1.heap.size = b at h2 hb
    go_wp2_with fail
    by_cases hok : 0 ≤ n ∧ n ≤ s.size
    · obtain ⟨k, rfl⟩ := Int.eq_ofNat_of_zero_le hok.1
      have hk : k ≤ s.size := by omega
      refine (take_ok w.heap.size b s k _ h2 hb hk).mono ?_
      rintro e w3 ⟨rfl, h3, b3⟩
      go_wp2_with fail
      refine (left_any b _ _ h3).mono ?_
      rw [tailB_size]
      rintro e w4 ⟨rfl, rfl⟩
      go_wp2
      go_ret
      refine ⟨?_, c2.trans b3⟩
      have : (((s.size - k : Nat) : Int) == (s.size : Int) - (k : Int)) = true := by rw [beq_iff_eq]; omega
      rw [this]; rfl
    · have hno : n < 0 ∨ (s.size : Int) < n := by omega
      have hcall : Calls Try.prog 19 #[.pointer (some ⟨b, 0, none⟩), .int .i64 n] w2 fun e w' => (∃ c : Int, e = .returned (.tuple #[.string ⟨#[]⟩, .int .i64 c]) ∧ (c == 0) = false) ∧ w2 = w' := by
        rcases hno with h | h
        · exact (take_neg _ n _ h).mono fun e w' ⟨he, hw⟩ => ⟨⟨1, he, by decide⟩, hw⟩
        · exact (take_short b s n _ h2 h).mono fun e w' ⟨he, hw⟩ => ⟨⟨2, he, by decide⟩, hw⟩
      refine hcall.mono ?_
      rintro e w3 ⟨⟨c, rfl, hc⟩, rfl⟩
      clear hcall hok hno
      go_wp2_with fail
      refine (new_any s _).mono ?_
      rintro e w4 ⟨rfl, h4, b4⟩
      have c4 := early c2 b4
      have h4' : Has w4 b s := h2.below b4 h2.2.2
      have hb' : w.heap.size ≤ w2.heap.size := c2.size
      have hne : b < w2.heap.size := h2.2.2
      clear b4 c2 h2
      generalize w2.heap.size = d at h4 hb' hne
      go_wp2_with fail
      by_cases h8 : 8 ≤ s.size
      · refine (mU64_at b s _ h4' h8).mono ?_
        rintro e w5 ⟨rfl, h5⟩
        have i5 : Has w5 b (tailB s 8) := h5 ▸ h4'.set _
        have j5 : Has w5 d s := h5 ▸ h4.other (by omega) _
        have c5 : Below w.heap.size w w5 := c4.trans (h5 ▸ Has.belowSet hb _)
        clear h5 c4 h4 h4'
        go_wp2_with fail
        refine (mU64_at d s _ j5 h8).mono ?_
        rintro e w6 ⟨rfl, h6⟩
        have i6 : Has w6 d (tailB s 8) := h6 ▸ j5.set _
        have j6 : Has w6 b (tailB s 8) := h6 ▸ i5.other (by omega) _
        have c6 : Below w.heap.size w w6 := c5.trans (h6 ▸ Has.belowSet hb' _)
        clear h6 c5 i5 j5
        go_wp2_with fail
        refine (left_any b _ _ j6).mono ?_
        rintro e w7 ⟨rfl, rfl⟩
        go_wp2_with fail
        refine (left_any d _ _ i6).mono ?_
        rintro e w7 ⟨rfl, rfl⟩
        go_wp2
        go_ret
        exact ⟨rfl, c6⟩
      · have h8' : s.size < 8 := by omega
        refine (mU64_short b s _ h4' h8').mono ?_
        rintro e w5 ⟨rfl, rfl⟩
        go_wp2_with fail
        refine (mU64_short d s _ h4 h8').mono ?_
        rintro e w5 ⟨rfl, rfl⟩
        go_wp2_with fail
        refine (left_any b _ _ h4').mono ?_
        rintro e w7 ⟨rfl, rfl⟩
        go_wp2_with fail
        refine (left_any d _ _ h4).mono ?_
        rintro e w7 ⟨rfl, rfl⟩
        go_wp2
        go_ret
        exact ⟨rfl, c4⟩
end Go.Proofs.Ytmopopgablakaaa
