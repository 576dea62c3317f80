/-
  The walk of polderlaw05.GeomFirsts.
-/
import Derived.Test.YtpbhbpopebjgiaaGh
namespace Go.Proofs.Ytpbhbpopebjgiaa
open Go.RowKit

set_option maxHeartbeats 1000000 in
theorem walk_GeomFirsts (v0 : Value) (l : List (Int × Int)) (s : Int) (w : World) (h : Meas w v0 l s) :
    Calls Try.prog 8 #[v0] w fun e w' => e = .returned (.bool true) ∧ Below w.heap.size w w' := by
  obtain ⟨a, n, c, rfl, hg⟩ := id h
  have hn := hg.1.2.1
  have hm := hg.1.1
  unfold maxLen at hm
  have HN := Lib.hid hn
  have K := Lib.hid (Held.start h)
  clear h hg hn
  cases hr : rightL l s with
  | false =>
    have HB := Lib.hid hr
    clear hr
    go_enter Try.func8, Try.ntmps8
    go_wp2_with fail
    refine (awake_any _).mono ?_
    rintro e w1 ⟨rfl, b1⟩
    have K1 := Lib.hid (K.out.next b1)
    have c0 := K1.out.c0
    have c1 := K1.out.c1
    clear b1 K
    go_wp2_with fail
    refine (right_any l s _ _ K1.out.m false HB.out).mono ?_
    rintro e w2 ⟨rfl, b2⟩
    have K2 := Lib.hid (K1.out.next b2)
    clear c0 c1 b2 K1
    go_wp2_with fail
    refine (awake_any _).mono ?_
    rintro e w3 ⟨rfl, b3⟩
    go_wp2
    go_ret
    exact ⟨rfl, next K2.out.below b3⟩
  | true =>
    have HB := Lib.hid hr
    have HR := Lib.hid (rightM_iff.1 hr)
    have hn4 : n ≤ 4 := by rw [← HN.out]; exact HR.out.few
    clear hr
    go_enter Try.func8, Try.ntmps8
    go_wp2_with fail
    refine (awake_any _).mono ?_
    rintro e w1 ⟨rfl, b1⟩
    have K1 := Lib.hid (K.out.next b1)
    have c0 := K1.out.c0
    have c1 := K1.out.c1
    clear b1 K
    go_wp2_with fail
    refine (right_any l s _ _ K1.out.m true HB.out).mono ?_
    rintro e w2 ⟨rfl, b2⟩
    have K2 := Lib.hid (K1.out.next b2)
    clear c0 c1 b2 K1
    go_wp2_with fail
    go_loopw [3, 4] (fun t i wr => ∃ (k : Nat) (y : Int), k ≤ n ∧ i = .int .i64 (k : Int) ∧ t = .int .i64 y ∧ 0 ≤ y ∧ y ≤ 32 ∧ Hid (aheadL l k = y) ∧ Hid (Held w wr w.heap.size a n c s l)) (fun _ i _ => n - (intOf i).toNat)
    case atStart => exact ⟨0, 0, Nat.zero_le _, rfl, rfl, by omega, by omega, Lib.hid (aheadL_zero l), K2⟩
    case round =>
      obtain ⟨k, y, hk, rfl, rfl, y0, y1, HY, K3⟩ := hrel
      have c0 := K3.out.c0
      have c1 := K3.out.c1
      by_cases hlt : k < n
      · have hkl : k < l.length := by rw [HN.out]; exact hlt
        have HF : Hid (firstL l s (k : Int) = y) := Lib.hid (by
          rw [firstL, hasL_iff.2 ⟨HR.out, k, rfl, hkl⟩, if_pos rfl]; exact HY.out)
        obtain ⟨kk, u, hl⟩ : ∃ kk u, l[k] = (kk, u) := ⟨_, _, rfl⟩
        have hsu : aheadL l (k + 1) = y + u := by rw [aheadL_succ l k hkl, hl, HY.out]
        have hbn := HR.out.bounds (k + 1) hkl
        have HL : Hid (∃ hk : k < l.length, l[k] = (kk, u)) := Lib.hid ⟨hkl, hl⟩
        obtain ⟨u1, u8⟩ : 1 ≤ u ∧ u ≤ 8 := by
          have := okG_wide (HR.out.all k hkl)
          rw [hl] at this
          exact this
        have hyu : 0 ≤ y + u ∧ y + u ≤ 32 := by omega
        obtain ⟨yu0, yu1⟩ := hyu
        have HS := Lib.hid hsu
        clear hsu hbn hl hkl
        go_wp2_with fail
        refine (first_any l s _ _ K3.out.m (k : Int) (by omega) y HF.out).mono ?_
        rintro e w4 ⟨rfl, b4⟩
        have K4 := Lib.hid (K3.out.next b4)
        clear c0 c1 b4 K3
        have c0 := K4.out.c0
        have c1 := K4.out.c1
        obtain ⟨g, o, rfl, hlt2, e0, e1⟩ := K4.out.at_ HL.out.1 HL.out.2
        dsimp only at e0 e1
        go_wp2
        go_roundw
        case rel => exact ⟨k + 1, y + u, by omega, by go_num, by go_num, yu0, yu1, HS, K4⟩
        case measure => simp [intOf]; omega
      · obtain rfl : k = n := by omega
        have HX : Hid (devsL l s = y) := Lib.hid (by
          rw [devsL, HB.out, if_pos rfl, HN.out]; exact HY.out)
        go_wp2_with fail
        refine (devs_any l s _ _ K3.out.m y HX.out).mono ?_
        rintro e w4 ⟨rfl, b4⟩
        go_wp2
        go_ret
        exact ⟨by simp, next K3.out.below b4⟩
end Go.Proofs.Ytpbhbpopebjgiaa
