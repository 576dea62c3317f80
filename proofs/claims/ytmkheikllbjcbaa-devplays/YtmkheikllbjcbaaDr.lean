/-
  awake.
-/
import Derived.Test.YtmkheikllbjcbaaDq
namespace Go.Proofs.Ytmkheikllbjcbaa
open Go.RowKit Go.Maps

theorem crashTo_nil (S : Dv) (t : Nat) : S.crashTo [] t = S := by
  induction t with
  | zero => rfl
  | succ t ih => unfold Dv.crashTo; rw [if_neg (by simp), ih]
theorem doCrash_nil {S : Dv} (h : S.lost = false) : S.doCrash [] = { S.bare with fused := false } := by
  unfold Dv.doCrash Dv.crash
  rw [h, crashTo_nil]
  rfl
/-- A device that nothing befell. -/
structure Calm (S : Dv) : Prop where
  lost : S.lost = false
  fused : S.fused = false
theorem Calm.pass {S : Dv} (h : Calm S) : S.pass = true := by simp [Dv.pass, h.fused]
theorem Calm.spent {S : Dv} (h : Calm S) : S.spent = S := by
  unfold Dv.spent
  cases S with | mk med since lost fused left cnt =>
  have := h.fused
  simp at this
  simp [this]
theorem Calm.reach {S : Dv} (h : Calm S) {j : Nat} (hj : j < S.med.length) : reachE S (j : Int) = 0 := reach_ok h.lost hj
theorem Calm.write {S : Dv} (h : Calm S) {j : Nat} (hj : j < S.med.length) (x : Sec) : S.write (j : Int) x = S.put j x ∧ S.writeE (j : Int) = 0 := by
  unfold Dv.write Dv.writeE
  simp [h.reach hj, h.pass, h.spent]
theorem Calm.flush {S : Dv} (h : Calm S) : S.doFlush = S.flush ∧ S.flushE = 0 := by
  unfold Dv.doFlush Dv.flushE
  simp [h.lost, h.pass, h.spent]
theorem Calm.read {S : Dv} (h : Calm S) {j : Nat} (hj : j < S.med.length) : S.readV (j : Int) = .tuple #[.string (strOf (S.now j)), .int .i64 0] := by
  unfold Dv.readV
  rw [if_pos (h.reach hj)]
  simp
theorem now_put_same (S : Dv) (k : Nat) (x : Sec) : (S.put k x).now k = x := by simp [Dv.now, Dv.put]
theorem now_put_other (S : Dv) (k j : Nat) (x : Sec) (h : j ≠ k) : (S.put k x).now j = S.now j := by simp [Dv.now, Dv.put, h]
theorem now_flush (S : Dv) (k : Nat) (h : k < S.med.length) : S.flush.now k = S.now k := by
  show (((List.range S.med.length).map S.now).getD k []) = S.now k
  rw [List.getD_eq_getElem?_getD, List.getElem?_map, List.getElem?_range h]
  rfl
theorem new_now (n k : Nat) (h : k < n) : (newDv n).now k = fullS 0 := by
  show (List.replicate n (fullS 0)).getD k [] = _
  rw [List.getD_eq_getElem?_getD, List.getElem?_replicate, if_pos h]
  rfl
theorem new_calm (n : Nat) : Calm (newDv n) := ⟨rfl, rfl⟩
theorem early {B : Nat} {w w1 w2 : World} (b1 : Below B w w1) (hB : B ≤ w1.heap.size) (b2 : Below w1.heap.size w1 w2) : Below B w w2 := b1.trans (b2.mono hB)

/-- awake, step by step. -/
def wk1 : Dv := (newDv 2).put 1 (fullS 97)
def wk2 : Dv := { wk1.bare with fused := false }
def wk3 : Dv := wk2.put 1 (fullS 98)
def wk4 : Dv := wk3.flush
def wk5 : Dv := { wk4.bare with fused := false }
theorem wk_now2 : wk2.now 1 = fullS 0 := rfl
theorem wk_now5 : wk5.now 1 = fullS 98 := by
  show wk4.now 1 = fullS 98
  unfold wk4
  rw [now_flush wk3 1 (by decide)]
  exact now_put_same _ _ _
set_option maxHeartbeats 1000000 in
theorem awake_any (w : World) :
    Calls Try.prog 10 #[] w fun e w' => e = .returned (.bool true) ∧ Below w.heap.size w w' := by
  go_enter Try.func10, Try.ntmps10
  go_wp2_with fail
  refine (newL 2 w.heap.size _ (by omega) (by omega) (Nat.le_refl _)).mono ?_
  rintro e w1 ⟨b, rfl, h1, b1⟩
  go_wp2_with fail
  refine (show Calls Try.prog 14 #[.int .u8 97] _ _ from full_any 97 _).mono ?_
  rintro e w2 ⟨rfl, b2⟩
  have h2 := h1.below b2
  have b12 := early b1 b1.size b2
  have W := writeL w.heap.size b (newDv 2) 1 (fullS 97) w2 h2 b12.size (fullS_len _) (by decide)
  rw [show (1 : Int) = ((1 : Nat) : Int) from rfl, ((new_calm 2).write (j := 1) (by decide) (fullS 97)).1, ((new_calm 2).write (j := 1) (by decide) (fullS 97)).2] at W
  generalize strOf (fullS 97) = s97 at *
  go_wp2_with fail
  refine W.mono ?_
  rintro e w3 ⟨rfl, h3, b3⟩
  have b13 := b12.trans b3
  clear W h1 h2 b2 b12 b3 b1
  have W := crashL w.heap.size b _ (.slice none 0 0) [] w3 h3 b13.size (by decide) (Ints.nil _ _)
  rw [doCrash_nil (by rfl)] at W
  go_wp2_with fail
  refine W.mono ?_
  rintro e w4 ⟨rfl, h4, b4⟩
  have b14 := b13.trans b4
  clear W h3 b13 b4
  have W := readL w.heap.size b _ 1 w4 h4
  have e2 : Calm wk2 := ⟨rfl, rfl⟩
  rw [show (1 : Int) = ((1 : Nat) : Int) from rfl] at W
  change Calls _ _ _ _ (fun e w' => e = .returned (wk2.readV ((1 : Nat) : Int)) ∧ w4 = w') at W
  rw [e2.read (by decide), wk_now2] at W
  go_wp2_with fail
  refine W.mono ?_
  rintro e w5 ⟨rfl, rfl⟩
  clear W
  go_wp2_with fail
  refine (show Calls Try.prog 14 #[.int .u8 98] _ _ from full_any 98 _).mono ?_
  rintro e w5 ⟨rfl, b5⟩
  have h5 := h4.below b5
  have b15 := early b14 b14.size b5
  have W := writeL w.heap.size b wk2 1 (fullS 98) w5 h5 b15.size (fullS_len _) (by decide)
  rw [show (1 : Int) = ((1 : Nat) : Int) from rfl, (e2.write (j := 1) (by decide) (fullS 98)).1, (e2.write (j := 1) (by decide) (fullS 98)).2] at W
  go_wp2_with fail
  refine W.mono ?_
  rintro e w6 ⟨rfl, h6, b6⟩
  have b16 := b15.trans b6
  clear W h4 h5 b5 b15 b6 b14
  have W := flushLw w.heap.size b wk3 w6 h6 b16.size (by decide)
  have e3 : Calm wk3 := ⟨rfl, rfl⟩
  rw [e3.flush.1, e3.flush.2] at W
  go_wp2_with fail
  refine W.mono ?_
  rintro e w7 ⟨rfl, h7, b7⟩
  have b17 := b16.trans b7
  clear W h6 b16 b7
  have W := crashL w.heap.size b wk4 (.slice none 0 0) [] w7 h7 b17.size (by decide) (Ints.nil _ _)
  rw [doCrash_nil (by rfl)] at W
  go_wp2_with fail
  refine W.mono ?_
  rintro e w8 ⟨rfl, h8, b8⟩
  have b18 := b17.trans b8
  clear W h7 b17 b8
  have W := readL w.heap.size b wk5 1 w8 h8
  have e5 : Calm wk5 := ⟨rfl, rfl⟩
  rw [show (1 : Int) = ((1 : Nat) : Int) from rfl, e5.read (by decide), wk_now5] at W
  go_wp2_with fail
  refine W.mono ?_
  rintro e w9 ⟨rfl, rfl⟩
  clear W
  have f0 := fun w => (show Calls Try.prog 14 #[.int .u8 0] w _ from full_any 0 _)
  have f98 := fun w => (show Calls Try.prog 14 #[.int .u8 98] w _ from full_any 98 _)
  generalize strOf (fullS 0) = s0 at *
  generalize strOf (fullS 98) = s98 at *
  go_wp2_with fail
  refine (f0 _).mono ?_
  rintro e w9 ⟨rfl, b9⟩
  have b19 := early b18 b18.size b9
  go_wp2_with fail
  refine (f98 _).mono ?_
  rintro e w10 ⟨rfl, b10⟩
  have b20 := early b19 b19.size b10
  go_wp2
  go_ret
  exact ⟨by simp, b20⟩
end Go.Proofs.Ytmkheikllbjcbaa
