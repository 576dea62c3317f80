/-
  The document's example: polderlaw06.awake.
-/
import Derived.Test.YtebejoigdofonaaCf
namespace Go.Proofs.Ytebejoigdofonaa
open Go.RowKit

def exL : List C := [⟨1, 16, true, 0⟩, ⟨2, 16, false, 0⟩, ⟨0, 17, false, 0⟩]
theorem ex_cols : colsOf [(1, 3)] 0 1 2 = exL := by rfl
theorem ex_blk : Blk [(1, 3)] 24 0 1 2 := ⟨rightM_iff.1 (by decide), by decide, by decide, by decide, by decide⟩
set_option maxHeartbeats 1000000 in
theorem awake6 (w : World) : Calls Try.prog 9 #[] w fun e w' => e = .returned (.bool true) ∧ Below w.heap.size w w' := by
  go_enter Try.func9, Try.ntmps9
  go_wp2_with fail
  have hM : Meas (w.alloc (.cells #[.int .i64 1, .int .i64 3] 40)) (.agg #[.slice (some ⟨w.heap.size, 0, none⟩) 1 1, .int .i64 24]) [(1, 3)] 24 := by
    refine ⟨_, _, _, rfl, ⟨by decide, rfl, fun i hi => ?_⟩, by omega, by omega⟩
    obtain rfl : i = 0 := by simpa using hi
    exact ⟨_, _, rfl, ⟨by simp, by simp, by simp, by simp, by simp, by simp, by simp⟩⟩
  refine (of_ok [(1, 3)] 24 _ _ hM 0 1 2 ex_blk).mono ?_
  rintro e w1 ⟨v, rfl, ho, b1⟩
  rw [ex_cols] at ho
  have HO := Lib.hid ho.v
  have HB := Lib.hid (next (boxed _ _) b1)
  clear ho b1 hM
  go_wp2_with fail
  have hV : ColsV (w1.alloc (.cells #[.int .i64 1, .int .i64 16, .bool true, .int .i64 0, .int .i64 2, .int .i64 16, .bool false, .int .i64 0, .int .i64 0, .int .i64 17, .bool false, .int .i64 0] 34)) (.slice (some ⟨w1.heap.size, 0, none⟩) 3 3) exL := by
    refine ⟨_, _, _, rfl, rfl, fun j hj => ⟨_, rfl, by simp, ?_⟩⟩
    have hj' : j < 3 := hj
    match j, hj' with
    | 0, _ => exact ⟨by simp [exL], by simp [exL], by simp [exL], by simp [exL]⟩
    | 1, _ => exact ⟨by simp [exL], by simp [exL], by simp [exL], by simp [exL]⟩
    | 2, _ => exact ⟨by simp [exL], by simp [exL], by simp [exL], by simp [exL]⟩
  refine (same_any _ _ _ exL exL (HO.out.next (boxed _ _)) hV (by decide) (by decide) true (by simp)).mono ?_
  rintro e w2 ⟨rfl, b2⟩
  go_wp2
  go_ret
  exact ⟨rfl, next (next HB.out (boxed _ _)) b2⟩
end Go.Proofs.Ytebejoigdofonaa
