/-
  The closure that numbers sectors: cols.ofParity's.
-/
import Derived.Test.YtiffkbmcikiioaaGreatY04

/- The closure that numbers sectors: cols.ofParity's. -/
namespace Go.Proofs.YtiffkbmcikiioaaGreat
set_option maxRecDepth 100000
open Go.RowKit

/-- The x-th of a group's sectors, as a column. -/
def colP (f : Int) (u x r : Nat) (p : Bool) : C := ⟨f + (x % u : Nat), 16 + (x / u : Nat), p, r⟩

set_option maxHeartbeats 2000000 in
theorem next_any (w : World) (bf bx bw : Nat) (f : Int) (x u r : Nat) (p : Bool) (hf : w.cell? ⟨bf, 0, none⟩ = some (.int .i64 f)) (hx : w.cell? ⟨bx, 0, none⟩ = some (.int .i64 (x : Int))) (hw : w.cell? ⟨bw, 0, none⟩ = some (.int .i64 (u : Int)))
    (lf : bf < w.heap.size) (lx : bx < w.heap.size) (lw : bw < w.heap.size) (hz : w.frozen? ⟨bx, 0, none⟩ = false) (f0 : 0 ≤ f) (f1 : f ≤ 32) (x1 : x ≤ 100000) (u3 : 3 ≤ u) (u8 : u ≤ 8) (c : C) (hc : colP f u x r p = c) :
    Calls Tryz.prog 107 #[.int .i64 (r : Int), .bool p, .pointer (some ⟨bf, 0, none⟩), .pointer (some ⟨bx, 0, none⟩), .pointer (some ⟨bw, 0, none⟩)] w fun e w' =>
      e = .returned (.agg #[.int .i64 c.dev, .int .i64 c.at_, .bool c.par, .int .i64 c.row]) ∧ Below w.heap.size (w.setCell ⟨bx, 0, none⟩ (.int .i64 ((x + 1 : Nat) : Int))) w' := by
  have HC : Hid (colP f u x r p = c) := Lib.hid hc
  clear hc
  have hm0 : 0 ≤ (x : Int) % u := Int.emod_nonneg _ (by omega)
  have hm1 : (x : Int) % u < u := Int.emod_lt_of_pos _ (by omega)
  have hd0 : 0 ≤ (x : Int) / u := Int.ediv_nonneg (by omega) (by omega)
  have hd1 : (x : Int) / u ≤ x := Int.ediv_le_self _ (by omega)
  go_enter Tryz.func107, Tryz.ntmps107
  go_wp2_with fail
  go_region
  go_wp2
  refine bodyPost_ret (v := (colP f u x r p).val) (by simp [results, Tryz.results107, go_sem, colP, C.val]) rfl ⟨by rw [← HC.out]; rfl, ?_⟩
  have e : (((x + 1 : Nat) : Int)) = (x : Int) + 1 := by omega
  rw [e]
  exact (((Below.refl _ _).alloc (by simp [World.setCell]) _).alloc (by simp [World.setCell]) _).drew
end Go.Proofs.YtiffkbmcikiioaaGreat
