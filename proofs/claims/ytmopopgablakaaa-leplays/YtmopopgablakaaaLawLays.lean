/-
  The walk of polderlaw01.LeLays: it returns true, and writes nothing that was there.
-/
import Derived.Test.YtmopopgablakaaaRef2
namespace Go.Proofs.Ytmopopgablakaaa
open Go.RowKit M

theorem early {w w1 w2 : World} (b1 : Below w.heap.size w w1) (b2 : Below w1.heap.size w1 w2) : Below w.heap.size w w2 := b1.trans (b2.mono b1.size)

set_option maxHeartbeats 1000000 in
theorem walk_LeLays (n x : Int) (s : ByteArray) (t : Int) (w : World) (_w0 : (Lit.int .i64 n).wf = true) (w1 : (Lit.int .u64 x).wf = true) (hs : s.size ≤ maxLen) (_w3 : (Lit.int .i64 t).wf = true) :
    Calls Try.prog 6 #[.int .i64 n, .int .u64 x, .string s, .int .i64 t] w fun e w' => e = .returned (.bool true) ∧ Below w.heap.size w w' := by
  unfold maxLen at hs
  obtain ⟨hx0, hx1⟩ : 0 ≤ x ∧ x ≤ 18446744073709551615 := by simpa [Lit.wf, IntKind.min, IntKind.max, IntKind.signed, IntKind.bits] using w1
  obtain ⟨a, rfl⟩ := Int.eq_ofNat_of_zero_le hx0
  have ha : a < 18446744073709551616 := by omega
  clear hx0 hx1 w1
  by_cases hl : 3000 < s.size
  · go_enter Try.func6, Try.ntmps6
    go_wp2_with fail
    refine (awake_any _).mono ?_
    rintro e w1 ⟨rfl, b1⟩
    go_wp2_with fail
    refine (awake_any _).mono ?_
    rintro e w2 ⟨rfl, b2⟩
    go_wp2
    go_ret
    exact ⟨rfl, early b1 b2⟩
  · go_enter Try.func6, Try.ntmps6
    go_wp2_with fail
    refine (awake_any _).mono ?_
    rintro e w1 ⟨rfl, c1⟩
    go_wp2_with fail
    refine (u32_all n _).mono ?_
    rintro e w2 ⟨rfl, b2⟩
    have c2 := early c1 b2
    clear c1 b2
    go_wp2_with fail
    refine (refU32_all n _).mono ?_
    rintro e w3 ⟨rfl, b3⟩
    have c3 := early c2 b3
    clear c2 b3
    go_wp2_with fail
    refine (u64_any a _ ha).mono ?_
    rintro e w4 ⟨rfl, b4⟩
    have c4 := early c3 b4
    clear c3 b4
    go_wp2_with fail
    refine (refLay_any a 8 _ ha (by omega)).mono ?_
    rintro e w5 ⟨rfl, b5⟩
    have c5 := early c4 b5
    clear c4 b5
    go_wp2_with fail
    refine (int_all n _).mono ?_
    rintro e w6 ⟨rfl, b6⟩
    have c6 := early c5 b6
    clear c5 b6
    go_wp2_with fail
    refine (refInt_all n _).mono ?_
    rintro e w7 ⟨rfl, b7⟩
    have c7 := early c6 b7
    clear c6 b7
    go_wp2_with fail
    refine (pad_all s t _ (by omega)).mono ?_
    rintro e w8 ⟨rfl, b8⟩
    have c8 := early c7 b8
    clear c7 b8
    go_wp2_with fail
    refine (refPad_all s t _ (by omega)).mono ?_
    rintro e w9 ⟨rfl, rfl⟩
    go_wp2
    go_ret
    exact ⟨rfl, c8⟩
end Go.Proofs.Ytmopopgablakaaa
