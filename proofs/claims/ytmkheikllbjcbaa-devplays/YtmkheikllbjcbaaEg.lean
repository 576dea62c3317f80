/-
  A crash is what the document's Settle says; a device and the document's, side by side.
-/
import Derived.Test.YtmkheikllbjcbaaEf
namespace Go.Proofs.Ytmkheikllbjcbaa
open Go.RowKit Go.Maps

theorem keys_cnt (S : Dv) (k : Nat) (hk : k < S.med.length) (hs : S.since k ≠ []) : S.keys.getD (cntB S k) 0 = k := by
  have e : S.med.length = (k + 1) + (S.med.length - (k + 1)) := by omega
  have hne : (S.since k).isEmpty = false := by simpa using hs
  unfold Dv.keys cntB
  rw [e, List.range_add, List.filter_append, List.range_succ, List.filter_append]
  rw [List.append_assoc, List.getD_eq_getElem?_getD, List.getElem?_append_right (Nat.le_refl _)]
  simp [hne]
theorem crashTo_at (S : Dv) (l : List Int) (k : Nat) (hk : k ≤ S.med.length) (j : Nat) : (S.crashTo l (cntB S k)).med.getD j [] = if j < k then setAt S l j else S.med.getD j [] := by
  induction k with
  | zero => rfl
  | succ k ih =>
    have ih := ih (by omega)
    by_cases hs : S.since k = []
    · rw [cntB_none hs, ih]
      by_cases h1 : j < k
      · rw [if_pos h1, if_pos (by omega)]
      · rw [if_neg h1]
        by_cases h2 : j = k
        · subst h2
          rw [if_pos (by omega)]
          unfold setAt
          rw [if_pos hs]
        · rw [if_neg (by omega)]
    · rw [cntB_some hs]
      unfold Dv.crashTo
      obtain ⟨e1, e2, _, _⟩ := crashTo_since S l (cntB S k)
      by_cases hc : cntB S k < l.length
      · rw [if_pos hc, keys_cnt S k (by omega) hs]
        unfold Dv.settle
        simp only
        rw [getD_set _ _ _ _ (by rw [e2]; omega), e1]
        by_cases h2 : j = k
        · subst h2
          rw [if_pos rfl, if_pos (by omega), ih, if_neg (by omega)]
          unfold setAt
          rw [if_neg hs, if_pos hc]
        · rw [if_neg h2, ih]
          by_cases h1 : j < k
          · rw [if_pos h1, if_pos (by omega)]
          · rw [if_neg h1, if_neg (by omega)]
      · rw [if_neg hc, ih]
        by_cases h1 : j < k
        · rw [if_pos h1, if_pos (by omega)]
        · rw [if_neg h1]
          by_cases h2 : j = k
          · subst h2
            rw [if_pos (by omega)]
            unfold setAt
            rw [if_neg hs, if_neg hc]
          · rw [if_neg (by omega)]
theorem crashTo_rest (S : Dv) (l : List Int) (t : Nat) : (S.crashTo l t).left = S.left ∧ (S.crashTo l t).fused = S.fused := by
  induction t with
  | zero => exact ⟨rfl, rfl⟩
  | succ t ih =>
    unfold Dv.crashTo
    split
    · exact ih
    · exact ih
theorem crash_settled (S : Dv) (l : List Int) : S.crash l = { S.settled l with fused := false } := by
  have hm : (S.crashTo l S.keys.length).med = (List.range S.med.length).map (setAt S l) := by
    obtain ⟨_, e2, _, _⟩ := crashTo_since S l S.keys.length
    apply List.ext_getElem (by rw [e2]; simp)
    intro j h1 h2
    have hj : j < S.med.length := by rw [e2] at h1; exact h1
    have := crashTo_at S l S.med.length (Nat.le_refl _) j
    rw [if_pos hj, show cntB S S.med.length = S.keys.length from rfl, List.getD_eq_getElem?_getD, List.getElem?_eq_getElem h1] at this
    simpa using this
  obtain ⟨_, _, _, e4⟩ := crashTo_since S l S.keys.length
  obtain ⟨e5, _⟩ := crashTo_rest S l S.keys.length
  unfold Dv.crash Dv.bare Dv.settled
  simp only [hm, e4, e5]

/-- What becomes of a world in which something was done to the document's device. -/
def RefAt (w : World) (rb : Nat) (R : Dv) (rp : Nat → Prop) : Prop := ∃ mb mc sb sc hd, RefIn w rb mb mc sb sc hd R rp
/-- A device S and the document's R, side by side, all from block B on; F: blocks of others. -/
def Both (B : Nat) (F : Nat → Prop) (w : World) (b rb : Nat) (S R : Dv) : Prop :=
  ∃ fp rp, DevAt w b S fp ∧ RefAt w rb R rp ∧ (∀ k, fp k → B ≤ k) ∧ (∀ k, rp k → B ≤ k) ∧ (∀ k, fp k → ¬ rp k) ∧ ∀ k, F k → ¬ fp k ∧ ¬ rp k ∧ k < w.heap.size
def Kept (F : Nat → Prop) (w w' : World) : Prop := ∀ k, F k → w'.heap[k]? = w.heap[k]?
theorem Both.dev {B : Nat} {F : Nat → Prop} {w : World} {b rb : Nat} {S R S2 : Dv} (h : Both B F w b rb S R) (hB : B ≤ w.heap.size) {f : FuncId} {args : Array Value} {v : Value}
    (H : ∀ fp, DevAt w b S fp → Calls Try.prog f args w fun e w' => e = .returned v ∧ Did fp b S2 w w') : Calls Try.prog f args w fun e w' => e = .returned v ∧ Both B F w' b rb S2 R ∧ Below B w w' ∧ Kept F w w' := by
  obtain ⟨fp, rp, hd, ⟨mb, mc, sb, sc, hdd, hr⟩, h1, h2, h3, h4⟩ := h
  refine (H fp hd).mono fun e w' ⟨he, fp', hd', h5, ht⟩ => ⟨he, ⟨fp', rp, hd', ⟨mb, mc, sb, sc, hdd, hr.same ht.size fun k hk => ht.block k (hr.v.lt k hk) fun e => h3 k e hk⟩, fun k hk => ?_, h2, fun k hk hk2 => ?_, fun k hk => ?_⟩, ht.below h1 hB, fun k hk => ht.block k (h4 k hk).2.2 (h4 k hk).1⟩
  · rcases h5 k hk with h | h
    · exact h1 k h
    · omega
  · rcases h5 k hk with h | h
    · exact h3 k h hk2
    · have := hr.v.lt k hk2; omega
  · obtain ⟨f1, f2, f3⟩ := h4 k hk
    exact ⟨fun e => by rcases h5 k e with h | h; exact f1 h; omega, f2, Nat.lt_of_lt_of_le f3 ht.size⟩
theorem Both.devQ {B : Nat} {F : Nat → Prop} {w : World} {b rb : Nat} {S R : Dv} (h : Both B F w b rb S R) : DevL B w b S := by
  obtain ⟨fp, rp, hd, _, h1, _⟩ := h
  exact ⟨fp, hd, h1⟩
theorem Both.below {B : Nat} {F : Nat → Prop} {w w' : World} {b rb : Nat} {S R : Dv} (h : Both B F w b rb S R) (hb : Below w.heap.size w w') : Both B F w' b rb S R := by
  obtain ⟨fp, rp, hd, ⟨mb, mc, sb, sc, hdd, hr⟩, h1, h2, h3, h4⟩ := h
  exact ⟨fp, rp, hd.below hb, ⟨mb, mc, sb, sc, hdd, hr.same hb.size fun k hk => hb.block k (hr.v.lt k hk)⟩, h1, h2, h3, fun k hk => ⟨(h4 k hk).1, (h4 k hk).2.1, Nat.lt_of_lt_of_le (h4 k hk).2.2 hb.size⟩⟩
theorem Both.kept {B : Nat} {F : Nat → Prop} {w w' : World} {b rb : Nat} {S R : Dv} (h : Both B F w b rb S R) (hb : Below w.heap.size w w') : Kept F w w' := by
  obtain ⟨fp, rp, _, _, _, _, _, h4⟩ := h
  exact fun k hk => hb.block k (h4 k hk).2.2
/-- Another block is laid aside. -/
theorem Both.aside {B : Nat} {F : Nat → Prop} {w : World} {b rb : Nat} {S R : Dv} (h : Both B F w b rb S R) (o : Obj) : Both B (fun k => k = w.heap.size) (w.alloc o) b rb S R := by
  have hb : Below w.heap.size w (w.alloc o) := (Below.refl _ w).alloc (Nat.le_refl _) _
  obtain ⟨fp, rp, hd, ⟨mb, mc, sb, sc, hdd, hr⟩, h1, h2, h3, _⟩ := h
  have hlt : ∀ k, fp k → k < w.heap.size := by
    obtain ⟨_, _, _, _, hd⟩ := hd
    exact hd.lt
  refine ⟨fp, rp, hd.below hb, ⟨mb, mc, sb, sc, hdd, hr.same hb.size fun k hk => hb.block k (hr.v.lt k hk)⟩, h1, h2, h3, ?_⟩
  rintro k rfl
  exact ⟨fun e => Nat.lt_irrefl _ (hlt _ e), fun e => Nat.lt_irrefl _ (hr.v.lt _ e), by simp⟩
theorem Both.free {B : Nat} {F : Nat → Prop} {w : World} {b rb : Nat} {S R : Dv} (h : Both B F w b rb S R) : Both B (fun _ => False) w b rb S R := by
  obtain ⟨fp, rp, hd, hr, h1, h2, h3, _⟩ := h
  exact ⟨fp, rp, hd, hr, h1, h2, h3, fun k hk => hk.elim⟩
def RDid (rp : Nat → Prop) (rb : Nat) (R2 : Dv) (w w' : World) : Prop := ∃ rp', RefAt w' rb R2 rp' ∧ (∀ k, rp' k → rp k ∨ w.heap.size ≤ k) ∧ Turn rp w w'
theorem Both.ref {B : Nat} {F : Nat → Prop} {w : World} {b rb : Nat} {S R : Dv} (h : Both B F w b rb S R) (hB : B ≤ w.heap.size) :
    ∃ rp, RefAt w rb R rp ∧ (∀ k, F k → ¬ rp k) ∧ ∀ w' R2, RDid rp rb R2 w w' → Both B F w' b rb S R2 ∧ Below B w w' ∧ Kept F w w' := by
  obtain ⟨fp, rp, hd, hr, h1, h2, h3, h4⟩ := h
  have hlt : ∀ k, fp k → k < w.heap.size := by
    obtain ⟨_, _, _, _, hd⟩ := hd
    exact hd.lt
  refine ⟨rp, hr, fun k hk => (h4 k hk).2.1, fun w' R2 ⟨rp', hr', h5, ht⟩ => ⟨⟨fp, rp', hd.same ht.size fun k hk => ht.block k (hlt k hk) (h3 k hk), hr', h1, fun k hk => ?_, fun k hk hk2 => ?_, fun k hk => ?_⟩, ht.below h2 hB, fun k hk => ht.block k (h4 k hk).2.2 (h4 k hk).2.1⟩⟩
  · rcases h5 k hk with h | h
    · exact h2 k h
    · omega
  · rcases h5 k hk2 with h | h
    · exact h3 k hk h
    · have := hlt k hk; omega
  · obtain ⟨f1, f2, f3⟩ := h4 k hk
    exact ⟨f1, fun e => by rcases h5 k e with h | h; exact f2 h; omega, Nat.lt_of_lt_of_le f3 ht.size⟩
theorem Did.refl {fp : Nat → Prop} {b : Nat} {S : Dv} {w : World} (h : DevAt w b S fp) : Did fp b S w w := ⟨fp, h, fun _ h => .inl h, Turn.refl _ _⟩
/-- The document's device under another name of the same. -/
theorem RefIn.as {w : World} {rb mb mc sb sc : Nat} {hd : Nat → Nat × Nat} {R R' : Dv} {rp : Nat → Prop} (h : RefIn w rb mb mc sb sc hd R rp) (e1 : R'.med = R.med) (e2 : R'.since = R.since) (e3 : R'.lost = R.lost) (e4 : fuseV R' = fuseV R) (ok : DvOk R') : RefIn w rb mb mc sb sc hd R' rp := by
  refine h.field R' e1 e2 ok w rfl ?_ fun _ _ => rfl
  rw [h.blk]
  unfold refCells
  rw [e1, e3, e4]
theorem RefAt.as {w : World} {rb : Nat} {R R' : Dv} {rp : Nat → Prop} (h : RefAt w rb R rp) (e1 : R'.med = R.med) (e2 : R'.since = R.since) (e3 : R'.lost = R.lost) (e4 : fuseV R' = fuseV R) (ok : DvOk R') : RefAt w rb R' rp := by
  obtain ⟨mb, mc, sb, sc, hd, h⟩ := h
  exact ⟨mb, mc, sb, sc, hd, h.as e1 e2 e3 e4 ok⟩
theorem Both.as {B : Nat} {F : Nat → Prop} {w : World} {b rb : Nat} {S R R' : Dv} (h : Both B F w b rb S R) (e1 : R'.med = R.med) (e2 : R'.since = R.since) (e3 : R'.lost = R.lost) (e4 : fuseV R' = fuseV R) (ok : DvOk R') : Both B F w b rb S R' := by
  obtain ⟨fp, rp, hd, hr, rest⟩ := h
  exact ⟨fp, rp, hd, hr.as e1 e2 e3 e4 ok, rest⟩
end Go.Proofs.Ytmkheikllbjcbaa
