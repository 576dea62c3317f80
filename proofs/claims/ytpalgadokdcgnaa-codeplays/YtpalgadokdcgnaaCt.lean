/-
  The document's Of (polderref06): the same columns.
-/
import Derived.Test.YtpalgadokdcgnaaCs
import Derived.Test.YtpalgadokdcgnaaMa
import Derived.StillTailTactics
namespace Go.Proofs.Ytpalgadokdcgnaa
set_option maxRecDepth 100000
open Go.RowKit

/-- A row begun: k sectors are done, j columns of row r stand. -/
def parMid (f : Int) (t u k r : Nat) : Nat → List C
  | 0 => parTo f t u k
  | 1 => parTo f t u k ++ [colP f u (t + (parTo f t u k).length) r true]
  | j + 2 => parTo f t u (k + (j + 1))
theorem parMid_step (f : Int) (t u k r j : Nat) (hu : 2 ≤ u - 1) (hk : k = r * (u - 1)) (hj : j ≤ u - 1) : parMid f t u k r (j + 1) = parMid f t u k r j ++ [colP f u (t + (parMid f t u k r j).length) r (decide (j = 0))] := by
  have hup : 0 < u - 1 := by omega
  match j, hj with
  | 0, _ => rfl
  | 1, _ =>
    have h1 : k % (u - 1) = 0 := by rw [hk]; exact Nat.mul_mod_left _ _
    have h2 : k / (u - 1) = r := by rw [hk]; exact Nat.mul_div_cancel _ hup
    show parTo f t u (k + 1) = _
    rw [parTo, if_pos h1, h2]
    simp [parMid, Nat.add_assoc]
  | i + 2, hj =>
    have h1 : (k + (i + 1)) % (u - 1) = i + 1 := by rw [hk, Nat.mul_comm, Nat.mul_add_mod, Nat.mod_eq_of_lt (by omega)]
    have h2 : (k + (i + 1)) / (u - 1) = r := by rw [hk, Nat.mul_comm, Nat.mul_add_div hup, Nat.div_eq_of_lt (by omega), Nat.add_zero]
    show parTo f t u (k + (i + 1) + 1) = _
    rw [parTo, if_neg (by omega), h2]
    simp [parMid]
theorem parMid_len (f : Int) (t u k r j : Nat) : (parMid f t u k r j).length ≤ 2 * (k + j) := by
  match j with
  | 0 => exact Nat.le_trans (parTo_len f t u k) (by omega)
  | 1 =>
    have := parTo_len f t u k
    show (parTo f t u k ++ [_]).length ≤ _
    rw [List.length_append]
    simp
    omega
  | i + 2 => exact Nat.le_trans (parTo_len f t u (k + (i + 1))) (by omega)

set_option maxHeartbeats 2000000 in
theorem refOf_mir (l : List (Int × Int)) (s : Int) (v : Value) (w : World) (h : Meas w v l s) (hr : RightM l s) (k : Nat) (hk : k < l.length) (u : Nat) (hu : l[k] = (0, (u : Int))) (t : Int) (t0 : 0 ≤ t) (t1 : t ≤ 4096) (z : Nat) (z4 : z ≤ 4) :
    Calls Try.prog 36 #[v, .agg #[.int .i64 (k : Int), .int .i64 t], .int .i64 (z : Int)] w fun e w' => ∃ v', e = .returned v' ∧ OwnC w.heap.size w' v' (mirL (aheadL l k) t u z) ∧ Below w.heap.size w w' := by
  obtain ⟨a, n, c, rfl, hg⟩ := id h
  have hn := hg.1.2.1
  have hn4 : n ≤ 4 := by rw [← hn]; exact hr.few
  have hkn : k < n := by rw [← hn]; exact hk
  obtain ⟨uu1, uu8⟩ : 1 ≤ (u : Int) ∧ (u : Int) ≤ 8 := by have := okG_wide (hr.all k hk); rw [hu] at this; exact this
  have uu8' : u ≤ 8 := by omega
  obtain ⟨f, hf⟩ : ∃ f, aheadL l k = f := ⟨_, rfl⟩
  have hfb := hr.bounds k (Nat.le_of_lt hk)
  rw [hf] at hfb ⊢
  have f0 : 0 ≤ f := by omega
  have f1 : f ≤ 32 := by omega
  have K1 := Lib.hid (HeldP.start (k : Int) t h)
  have HR := Lib.hid hr
  have HL : Hid (∃ hk : k < l.length, l[k] = (0, (u : Int))) := Lib.hid ⟨hk, hu⟩
  have HF := Lib.hid hf
  have c0 := K1.out.h.c0
  have c1 := K1.out.h.c1
  have p0 := K1.out.p0
  obtain ⟨g, o, rfl, hlt, e0, e1⟩ := K1.out.h.at_ HL.out.1 HL.out.2
  dsimp only at e0 e1
  have hb1 := K1.out.h.lt
  have hb2 := K1.out.plt
  clear h hg hr hn hf hfb hu hk
  go_enter Try.func36, Try.ntmps36
  go_upto_region 2 with (fail)
  generalize (w.alloc (.cells #[.slice (some ⟨g, o, none⟩) n c, .int .i64 s] 24)).alloc (.cells #[.int .i64 (k : Int), .int .i64 t] 26) = W1 at *
  have K2 := Lib.hid (K1.out.next (boxed W1 (.cells #[.int .i64 0, .int .i64 (u : Int)] 37)))
  have hx := Lib.hid (new_pair W1 (.int .i64 0) (.int .i64 (u : Int)) 37)
  have hxs : W1.heap.size < (W1.alloc (.cells #[.int .i64 0, .int .i64 (u : Int)] 37)).heap.size := by simp
  go_wp2_with fail
  refine (refFirst_any l s _ _ K2.out.h.m HR.out k (Nat.le_of_lt HL.out.1) f HF.out).mono ?_
  rintro e w1 ⟨rfl, b1⟩
  have K3 := Lib.hid (K2.out.next b1)
  have hx0 := (b1.cell (p := ⟨W1.heap.size, 0, none⟩) hxs).trans hx.out.1
  have HX1 := Lib.hid ((b1.cell (p := ⟨W1.heap.size, 1, none⟩) hxs).trans hx.out.2)
  have hxl : W1.heap.size < w1.heap.size := Nat.lt_of_lt_of_le hxs b1.size
  have hW : w.heap.size ≤ w1.heap.size := K3.out.h.below.size
  clear c0 c1 p0 e0 e1 hb1 hb2 hlt b1 hx hxs K1 K2
  generalize W1.heap.size = bx at *
  go_wp2_with fail
  go_loopw [7, 10] (fun t8 i wr => ∃ d : Nat, d ≤ u ∧ i = .int .i64 (d : Int) ∧ Hid (OwnC w1.heap.size wr t8 (mirL f t d z)) ∧ Hid (Below w1.heap.size w1 wr)) (fun _ i _ => u - (intOf i).toNat)
  case atStart => exact ⟨0, Nat.zero_le _, rfl, Lib.hid (OwnC.nil _ _), Lib.hid (Below.refl _ _)⟩
  case round =>
    obtain ⟨d, hd, rfl, HO, HB⟩ := hrel
    have x1 := (HB.out.cell (p := ⟨bx, 1, none⟩) hxl).trans HX1.out
    by_cases hdu : d < u
    · go_wp2_with fail
      go_loopw [7, 11] (fun t8 i wr => ∃ j : Nat, j ≤ z ∧ i = .int .i64 (j : Int) ∧ Hid (OwnC w1.heap.size wr t8 (mirL f t d z ++ mirRow f t d j)) ∧ Hid (Below w1.heap.size w1 wr)) (fun _ i _ => z - (intOf i).toNat)
      case atStart => exact ⟨0, Nat.zero_le _, rfl, Lib.hid (by simpa [mirRow] using HO.out), HB⟩
      case round =>
        obtain ⟨j, hj, rfl, HO2, HB2⟩ := hrel
        have K4 := Lib.hid (K3.out.next HB2.out)
        have q1 := K4.out.p1
        by_cases hjz : j < z
        · have hsz := HB2.out.size
          have hlen : Hid ((mirL f t d z ++ mirRow f t d j).length ≤ 100000) := Lib.hid (by
            rw [List.length_append, mirL_len, mirRow_len]
            have : d * z ≤ 8 * 4 := Nat.mul_le_mul (by omega) z4
            omega)
          go_wp2_with (first | (at_builtin; refine wpList_append_col _ rfl _ _ rfl w1.heap.size _ _ ⟨f + d, 16 + t + j, false, j⟩ wr.heap.size 1 rfl rfl (HO2.out.below (boxed _ _)) ⟨by simp, by simp, by simp, by simp⟩ (by simp; omega) hlen.out ?_; intro v3 w3 hown3 hb3 hs3))
          go_roundw
          case rel =>
            refine ⟨j + 1, by omega, by go_num, Lib.hid ?_, Lib.hid ((HB2.out.alloc hsz _).trans hb3)⟩
            rw [mirRow_succ, ← List.append_assoc]
            exact hown3
          case measure => simp [intOf]; omega
        · obtain rfl : j = z := by omega
          go_wp2
          go_roundw
          case rel => exact ⟨d + 1, by omega, by go_num, Lib.hid (by rw [mirL_succ]; exact HO2.out), HB2⟩
          case measure => simp [intOf]; omega
    · obtain rfl : d = u := by omega
      go_wp2
      go_ret
      exact ⟨_, rfl, HO.out.lower hW, next K3.out.h.below HB.out⟩
end Go.Proofs.Ytpalgadokdcgnaa
