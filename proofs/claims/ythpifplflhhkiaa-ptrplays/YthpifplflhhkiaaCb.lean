/-
  A block's columns of a Mirror: cols.ofMirror.
-/
import Derived.Test.YthpifplflhhkiaaCa
namespace Go.Proofs.Ythpifplflhhkiaa
set_option maxRecDepth 100000
open Go.RowKit

def mirRow (f t : Int) (d z : Nat) : List C := (List.range z).map fun i : Nat => ⟨f + d, 16 + t + i, false, i⟩
def mirL (f t : Int) (u z : Nat) : List C := (List.range u).flatMap fun d => mirRow f t d z
theorem mirRow_succ (f t : Int) (d z : Nat) : mirRow f t d (z + 1) = mirRow f t d z ++ [⟨f + d, 16 + t + z, false, z⟩] := by
  simp [mirRow, List.range_succ]
theorem mirL_succ (f t : Int) (u z : Nat) : mirL f t (u + 1) z = mirL f t u z ++ mirRow f t u z := by
  simp [mirL, List.range_succ]
theorem mirRow_len (f t : Int) (d z : Nat) : (mirRow f t d z).length = z := by simp [mirRow]
theorem mirL_len (f t : Int) (u z : Nat) : (mirL f t u z).length = u * z := by
  induction u with
  | zero => simp [mirL]
  | succ u ih => rw [mirL_succ, List.length_append, ih, mirRow_len, Nat.add_mul, Nat.one_mul]

set_option maxHeartbeats 2000000 in
theorem mirror_any (l : List (Int × Int)) (s : Int) (v : Value) (w : World) (h : Meas w v l s) (hr : RightM l s) (k : Nat) (hk : k < l.length) (u : Nat) (hu : l[k] = (0, (u : Int))) (t : Int) (t0 : 0 ≤ t) (t1 : t ≤ 4096) (z : Nat) (z4 : z ≤ 4) :
    Calls Try.prog 53 #[v, .agg #[.int .i64 (k : Int), .int .i64 t], .int .i64 (z : Int)] w fun e w' => ∃ v', e = .returned v' ∧ OwnC w.heap.size w' v' (mirL (aheadL l k) t u z) ∧ Below w.heap.size w w' := by
  obtain ⟨a, n, c, rfl, hg⟩ := id h
  have hn := hg.1.2.1
  have hn4 : n ≤ 4 := by rw [← hn]; exact hr.few
  have hkn : k < n := by rw [← hn]; exact hk
  obtain ⟨uu1, uu8⟩ : 1 ≤ (u : Int) ∧ (u : Int) ≤ 8 := by have := okG_wide (hr.all k hk); rw [hu] at this; exact this
  have u8' : u ≤ 8 := by omega
  obtain ⟨f, hf⟩ : ∃ f, aheadL l k = f := ⟨_, rfl⟩
  have hfb := hr.bounds k (Nat.le_of_lt hk)
  rw [hf] at hfb ⊢
  have f0 : 0 ≤ f := by omega
  have f1 : f ≤ 32 := by omega
  have K1 := Lib.hid (HeldP.start (k : Int) t h)
  have HR := Lib.hid hr
  have HL : Hid (∃ hk : k < l.length, l[k] = (0, (u : Int))) := Lib.hid ⟨hk, hu⟩
  have HF : Hid (firstL l s (k : Int) = f) := Lib.hid (by unfold firstL; rw [hasL_iff.2 ⟨hr, k, rfl, hk⟩, if_pos rfl, ← hf]; simp)
  have HI : Hid (-9223372036854775808 ≤ (k : Int) ∧ (k : Int) ≤ 9223372036854775807) := Lib.hid (by omega)
  clear h hg hr hn hf hfb hu hk
  go_enter Try.func53, Try.ntmps53
  go_wp2_with fail
  refine (first_any l s _ _ K1.out.h.m (k : Int) HI.out f HF.out).mono ?_
  rintro e w1 ⟨rfl, b1⟩
  have K2 := Lib.hid (K1.out.next b1)
  have hW : w.heap.size ≤ w1.heap.size := K2.out.h.below.size
  clear K1 b1
  have c0 := K2.out.h.c0
  have p0 := K2.out.p0
  obtain ⟨g, o, rfl, hlt, e0, e1⟩ := K2.out.h.at_ HL.out.1 HL.out.2
  dsimp only at e0 e1
  go_wp2_with fail
  clear e0
  go_loopw [8, 22] (fun t8 i wr => ∃ d : Nat, d ≤ u ∧ i = .int .i64 (d : Int) ∧ Hid (OwnC w1.heap.size wr t8 (mirL f t d z)) ∧ Hid (Below w1.heap.size w1 wr)) (fun _ i _ => u - (intOf i).toNat)
  case atStart => exact ⟨0, Nat.zero_le _, rfl, Lib.hid (OwnC.nil _ _), Lib.hid (Below.refl _ _)⟩
  case round =>
    obtain ⟨d, hd, rfl, HO, HB⟩ := hrel
    by_cases hdu : d < u
    · go_wp2_with fail
      go_loopw [8, 26] (fun t8 i wr => ∃ j : Nat, j ≤ z ∧ i = .int .i64 (j : Int) ∧ Hid (OwnC w1.heap.size wr t8 (mirL f t d z ++ mirRow f t d j)) ∧ Hid (Below w1.heap.size w1 wr)) (fun _ i _ => z - (intOf i).toNat)
      case atStart => exact ⟨0, Nat.zero_le _, rfl, Lib.hid (by simpa [mirRow] using HO.out), HB⟩
      case round =>
        obtain ⟨j, hj, rfl, HO2, HB2⟩ := hrel
        have K3 := Lib.hid (K2.out.next HB2.out)
        have q1 := K3.out.p1
        by_cases hjz : j < z
        · have hsz := HB2.out.size
          have hlen : Hid ((mirL f t d z ++ mirRow f t d j).length ≤ 100000) := Lib.hid (by
            rw [List.length_append, mirL_len, mirRow_len]
            have : d * z ≤ 8 * 4 := Nat.mul_le_mul (by omega) z4
            omega)
          go_wp2_with (first | (at_builtin; refine wpList_append_col _ rfl _ _ rfl w1.heap.size _ _ ⟨f + d, 16 + t + j, false, j⟩ wr.heap.size 1 rfl rfl (HO2.out.below (boxed _ _)) ⟨by simp, by simp, by simp, by simp⟩ (by simp; omega) hlen.out ?_; intro v3 w3 hown3 hb3 hs3))
          go_roundw
          case rel =>
            refine ⟨j + 1, by omega, by go_num, Lib.hid ?_, Lib.hid ((HB2.out.alloc hsz _).trans hb3)⟩
            rw [mirRow_succ, ← List.append_assoc]
            exact hown3
          case measure => simp [intOf]; omega
        · obtain rfl : j = z := by omega
          go_wp2
          go_roundw
          case rel => exact ⟨d + 1, by omega, by go_num, Lib.hid (by rw [mirL_succ]; exact HO2.out), HB2⟩
          case measure => simp [intOf]; omega
    · obtain rfl : d = u := by omega
      go_wp2
      go_ret
      exact ⟨_, rfl, HO.out.lower hW, next K2.out.h.below HB.out⟩
end Go.Proofs.Ythpifplflhhkiaa
