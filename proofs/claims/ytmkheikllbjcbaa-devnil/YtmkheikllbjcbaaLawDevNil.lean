/-
  The walk of polderlaw04.DevNil.
-/
import Derived.Test.YtmkheikllbjcbaaDr
namespace Go.Proofs.Ytmkheikllbjcbaa
open Go.RowKit Go.Maps

set_option maxRecDepth 100000 in
set_option maxHeartbeats 2000000 in
theorem walk_DevNil (k : Int) (w : World) (_hk : (Lit.int .i64 k).wf = true) :
    Calls Try.prog 6 #[.int .i64 k] w fun e w' => e = .returned (.bool true) ∧ Below w.heap.size w w' := by
  clear _hk
  go_enter Try.func6, Try.ntmps6
  go_wp2_with fail
  refine (awake_any _).mono ?_
  rintro e w1 ⟨rfl, b1⟩
  go_wp2_with fail
  refine (crash_nil _ _).mono ?_
  rintro e w2 ⟨rfl, rfl⟩
  have b2 : Below w.heap.size w (w1.alloc (.cells #[.int .i64 1] 3)) := b1.alloc b1.size _
  generalize w1.alloc (.cells #[.int .i64 1] 3) = w2 at *
  clear b1
  go_wp2_with fail
  refine (lose_nil _).mono ?_
  rintro e w3 ⟨rfl, rfl⟩
  go_wp2_with fail
  refine (fresh_nil _ _).mono ?_
  rintro e w3 ⟨rfl, rfl⟩
  go_wp2_with fail
  refine (fuse_nil _ _).mono ?_
  rintro e w3 ⟨rfl, rfl⟩
  go_wp2_with fail
  refine (read_nil _ _).mono ?_
  rintro e w3 ⟨rfl, rfl⟩
  go_wp2_with fail
  refine (show Calls Try.prog 14 #[.int .u8 1] _ _ from full_any 1 _).mono ?_
  rintro e w3 ⟨rfl, b3⟩
  have b4 := early b2 b2.size b3
  go_wp2_with fail
  refine (write_nil _ _ _).mono ?_
  rintro e w4 ⟨rfl, rfl⟩
  go_wp2_with fail
  refine (flush_nil _).mono ?_
  rintro e w4 ⟨rfl, rfl⟩
  go_wp2_with fail
  refine (lost_nil _).mono ?_
  rintro e w4 ⟨rfl, rfl⟩
  go_wp2_with fail
  refine (secs_nil _).mono ?_
  rintro e w4 ⟨rfl, rfl⟩
  go_wp2_with fail
  refine (spoil_nil _ _ 1 _ (by decide)).mono ?_
  rintro e w4 ⟨rfl, rfl⟩
  go_wp2_with fail
  refine (cached_nil _).mono ?_
  rintro e w4 ⟨rfl, rfl⟩
  go_wp2
  go_ret
  exact ⟨rfl, b4⟩
end Go.Proofs.Ytmkheikllbjcbaa
