/-
  The walk of polderlaw04.DevFuse.
-/
import Derived.Test.YtmkheikllbjcbaaDr
namespace Go.Proofs.Ytmkheikllbjcbaa
open Go.RowKit Go.Maps

/-- A device with a fuse, t writes on. -/
structure Fz (S : Dv) (N t : Nat) : Prop where
  lost : S.lost = false
  fused : S.fused = true
  left : S.left = N - t
  len : S.med.length = 8
  cnt : S.cnt ≤ t
theorem Fz.pass {S : Dv} {N t : Nat} (h : Fz S N t) : S.pass = decide (t < N) := by
  unfold Dv.pass
  rw [h.fused, h.left]
  simp only [Bool.not_true, Bool.false_or, decide_eq_decide]
  omega
theorem Fz.write {S : Dv} {N t : Nat} (h : Fz S N t) (j : Nat) (hj : j < 8) (x : Sec) : Fz (S.write (j : Int) x) N (t + 1) ∧ S.writeE (j : Int) = if t < N then 0 else 6 := by
  have hr : reachE S (j : Int) = 0 := reach_ok h.lost (by rw [h.len]; exact hj)
  unfold Dv.write Dv.writeE
  rw [hr, h.pass]
  by_cases e : t < N
  · simp only [e, decide_true, and_self, if_true]
    refine ⟨⟨h.lost, h.fused, ?_, h.len, ?_⟩, trivial⟩
    · show (if S.fused then S.left - 1 else S.left) = _
      rw [h.fused, h.left]; simp; omega
    · show S.cnt + 1 ≤ t + 1
      have := h.cnt; omega
  · simp only [e, decide_false, if_false, if_true]
    exact ⟨by simpa using ⟨h.lost, h.fused, by rw [h.left]; omega, h.len, by have := h.cnt; omega⟩, by simp⟩
theorem full_nat (t : Nat) (ht : t < 256) (w : World) :
    Calls Try.prog 14 #[.int .u8 (t : Int)] w fun e w' => e = .returned (.string (strOf (fullS (UInt8.ofNat t)))) ∧ Below w.heap.size w w' := by
  have := full_any (UInt8.ofNat t) w
  rw [UInt8.toNat_ofNat_of_lt' (by simp [UInt8.size]; omega)] at this
  exact this
def FuseRel (B b N M : Nat) (u7 u8 : Value) (w wr : World) : Prop :=
  ∃ t S, t ≤ M ∧ u8 = .int .i64 ((t : Nat) : Int) ∧ u7 = .int .i64 ((min t N : Nat) : Int) ∧ DevL B wr b S ∧ Fz S N t ∧ Below B w wr

set_option maxRecDepth 100000 in
set_option maxHeartbeats 2000000 in
theorem walk_DevFuse (a0 a1 : Int) (w : World) (w0 : (Lit.int .u8 a0).wf = true) (w1 : (Lit.int .u8 a1).wf = true) :
    Calls Try.prog 7 #[.int .u8 a0, .int .u8 a1] w fun e w' => e = .returned (.bool true) ∧ Below w.heap.size w w' := by
  obtain ⟨p0, p1⟩ := bounds_u8 w0
  obtain ⟨q0, q1⟩ := bounds_u8 w1
  clear w0 w1
  obtain ⟨N, hN⟩ : ∃ N : Nat, a0 % 20 = N := ⟨(a0 % 20).toNat, by omega⟩
  obtain ⟨M, hM⟩ : ∃ M : Nat, a1 % 30 = M := ⟨(a1 % 30).toNat, by omega⟩
  have hN2 : N < 20 := by omega
  have hM2 : M < 30 := by omega
  go_enter Try.func7, Try.ntmps7
  go_wp2_with fail
  refine (awake_any _).mono ?_
  rintro e w1 ⟨rfl, b1⟩
  go_wp2_with fail
  refine (newL 8 w.heap.size _ (by omega) (by omega) b1.size).mono ?_
  rintro e w2 ⟨b, rfl, h2, b2⟩
  have b12 := b1.trans b2
  clear b1 b2
  go_wp2_with fail
  refine (fuseL w.heap.size b _ _ _ h2 b12.size (by omega)).mono ?_
  rintro e w3 ⟨rfl, h3, b3⟩
  have b13 := b12.trans b3
  have hrel0 : FuseRel w.heap.size b N M (.int .i64 0) (.int .i64 0) w w3 := ⟨0, _, Nat.zero_le _, rfl, by simp, h3, ⟨rfl, rfl, by simp, rfl, Nat.le_refl _⟩, b13⟩
  clear h3 b3 h2 b12 b13
  go_wp2_with fail
  go_loopw [7, 8] (fun u7 u8 wr => FuseRel w.heap.size b N M u7 u8 w wr) (fun _ u _ => M - (intOf u).toNat)
  case atStart => exact hrel0
  case round =>
    obtain ⟨t, S, ht, rfl, rfl, hd, hz, hb⟩ := hrel
    clear hrel0
    by_cases hlt : t < M
    · obtain ⟨q, hm8⟩ : ∃ q : Nat, (t : Int) % 8 = (q : Int) := ⟨t % 8, by omega⟩
      have hq8 : q < 8 := by omega
      have hw8 : IntKind.u8.wrap (t : Int) = (t : Int) := by rw [IntKind.wrap_u8]; omega
      have hmn : ((min t N : Nat) : Int) ≤ 20 := by omega
      obtain ⟨hz2, hwe⟩ := hz.write q hq8 (fullS (UInt8.ofNat t))
      have hcn := hz.cnt
      have F := fun w => full_nat t (by omega) w
      have W := fun w4 (b4 : Below wr.heap.size wr w4) => writeL w.heap.size b S (q : Int) (fullS (UInt8.ofNat t)) w4 (hd.below b4) (Nat.le_trans hb.size b4.size) (fullS_len _) (by omega)
      rw [hwe] at W
      clear hwe hcn hd hz
      generalize S.write (q : Int) (fullS (UInt8.ofNat t)) = S2 at *
      generalize strOf (fullS (UInt8.ofNat t)) = st at *
      go_wp2_with fail
      refine (F _).mono ?_
      rintro e w4 ⟨rfl, b4⟩
      have b5 := early hb hb.size b4
      have W4 := W w4 b4
      clear F W
      by_cases htN : t < N
      · rw [if_pos htN] at W4
        go_wp2_with fail
        (with_reducible refine W4.mono ?_)
        rintro e w5 ⟨rfl, h5, b6⟩
        clear W4
        go_wp2
        go_roundw
        case rel => exact ⟨t + 1, S2, by omega, by go_num, by rw [show min (t + 1) N = min t N + 1 by omega]; go_num, h5, hz2, b5.trans b6⟩
        case measure => simp [intOf]; omega
      · rw [if_neg htN] at W4
        go_wp2_with fail
        refine W4.mono ?_
        rintro e w5 ⟨rfl, h5, b6⟩
        clear W4
        go_wp2
        go_roundw
        case rel => exact ⟨t + 1, S2, by omega, by go_num, by rw [show min (t + 1) N = min t N by omega], h5, hz2, b5.trans b6⟩
        case measure => simp [intOf]; omega
    · obtain rfl : t = M := by omega
      have W := flushLw w.heap.size b S wr hd hb.size (by have := hz.cnt; omega)
      have hfl : S.flushE = if t < N then 0 else 6 := by unfold Dv.flushE; rw [hz.lost, hz.pass]; simp
      rw [hfl] at W
      have hfS : S.doFlush.lost = false ∧ S.doFlush.med.length = 8 ∧ S.doFlush.cnt ≤ 30 := by
        have := hz.cnt
        unfold Dv.doFlush
        split
        · exact ⟨hz.lost, by simp [Dv.flush, Dv.spent, hz.len], Nat.zero_le _⟩
        · exact ⟨hz.lost, hz.len, by omega⟩
      generalize S.doFlush = S1 at *
      clear hd hz hfl
      obtain ⟨hS1, hS2, hS3⟩ := hfS
      have C := fun w4 (h4 : DevL w.heap.size w4 b S1) (b4 : Below w.heap.size w w4) => crashL w.heap.size b S1 (.slice none 0 0) [] w4 h4 b4.size (by omega) (Ints.nil _ _)
      rw [doCrash_nil hS1] at C
      have e6 : Calm ({ S1.bare with fused := false } : Dv) := ⟨hS1, rfl⟩
      have hl6 : ({ S1.bare with fused := false } : Dv).med.length = 8 := hS2
      have hc6 : ({ S1.bare with fused := false } : Dv).cnt = 0 := rfl
      generalize ({ S1.bare with fused := false } : Dv) = S6 at *
      have W2 := fun w4 (h4 : DevL w.heap.size w4 b S6) (b4 : Below w.heap.size w w4) => writeL w.heap.size b S6 ((0 : Nat) : Int) (fullS 1) w4 h4 b4.size (fullS_len _) (by omega)
      rw [(e6.write (j := 0) (by omega) (fullS 1)).1, (e6.write (j := 0) (by omega) (fullS 1)).2] at W2
      have e7 : Calm (S6.put 0 (fullS 1)) := ⟨e6.lost, e6.fused⟩
      have hc7 : (S6.put 0 (fullS 1)).cnt = 1 := by show S6.cnt + 1 = 1; omega
      generalize (S6.put 0 (fullS 1)) = S7 at *
      have W3 := fun w4 (h4 : DevL w.heap.size w4 b S7) (b4 : Below w.heap.size w w4) => flushLw w.heap.size b S7 w4 h4 b4.size (by omega)
      rw [e7.flush.2] at W3
      have F := fun w => (show Calls Try.prog 14 #[.int .u8 1] w _ from full_any 1 _)
      generalize strOf (fullS 1) = st at *
      clear hS1 hS2 hS3 e6 hl6 hc6 e7 hc7 ht hlt
      by_cases htN : t < N
      · rw [if_pos htN] at W
        have hmr : min t N = t := by omega
        have hmn : (min (N : Int) (t : Int)) = (t : Int) := by omega
        rw [hmr]
        clear hmr
        go_wp2_with fail
        (with_reducible refine W.mono ?_)
        rintro e w4 ⟨rfl, h4, b4⟩
        have b5 := hb.trans b4
        have C := C w4 h4 b5
        clear W
        go_wp2_with fail
        (with_reducible refine C.mono ?_)
        rintro e w5 ⟨rfl, h5, b6⟩
        have b7 := b5.trans b6
        clear C
        go_wp2_with fail
        (with_reducible refine (F _).mono ?_)
        rintro e w6 ⟨rfl, b8⟩
        have b9 := early b7 b7.size b8
        have W2 := W2 w6 (h5.below b8) b9
        rw [show ((0 : Nat) : Int) = 0 from rfl] at W2
        go_wp2_with fail
        (with_reducible refine W2.mono ?_)
        rintro e w7 ⟨rfl, h7, b10⟩
        have b11 := b9.trans b10
        have W3 := W3 w7 h7 b11
        clear W2
        go_wp2_with fail
        (with_reducible refine W3.mono ?_)
        rintro e w8 ⟨rfl, h8, b12⟩
        have b13 := b11.trans b12
        clear W3
        go_wp2
        go_ret
        exact ⟨rfl, b13⟩
      · rw [if_neg htN] at W
        have hmr : min t N = N := by omega
        have hmn : (min (N : Int) (t : Int)) = (N : Int) := by omega
        rw [hmr]
        clear hmr
        go_wp2_with fail
        (with_reducible refine W.mono ?_)
        rintro e w4 ⟨rfl, h4, b4⟩
        have b5 := hb.trans b4
        have C := C w4 h4 b5
        clear W
        go_wp2_with fail
        (with_reducible refine C.mono ?_)
        rintro e w5 ⟨rfl, h5, b6⟩
        have b7 := b5.trans b6
        clear C
        go_wp2_with fail
        (with_reducible refine (F _).mono ?_)
        rintro e w6 ⟨rfl, b8⟩
        have b9 := early b7 b7.size b8
        have W2 := W2 w6 (h5.below b8) b9
        rw [show ((0 : Nat) : Int) = 0 from rfl] at W2
        go_wp2_with fail
        (with_reducible refine W2.mono ?_)
        rintro e w7 ⟨rfl, h7, b10⟩
        have b11 := b9.trans b10
        have W3 := W3 w7 h7 b11
        clear W2
        go_wp2_with fail
        (with_reducible refine W3.mono ?_)
        rintro e w8 ⟨rfl, h8, b12⟩
        have b13 := b11.trans b12
        clear W3
        go_wp2
        go_ret
        exact ⟨rfl, b13⟩
end Go.Proofs.Ytmkheikllbjcbaa
