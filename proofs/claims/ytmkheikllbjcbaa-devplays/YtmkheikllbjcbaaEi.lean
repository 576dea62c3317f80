/-
  Side by side: a step each.
-/
import Derived.Test.YtmkheikllbjcbaaEh
namespace Go.Proofs.Ytmkheikllbjcbaa
open Go.RowKit Go.Maps

section
variable {B : Nat} {F : Nat → Prop} {w : World} {b rb : Nat} {S R : Dv}
theorem Both.c2 (h : Both B F w b rb S R) : w.cell? ⟨rb, 2, none⟩ = some (.bool R.lost) := by
  obtain ⟨_, _, _, ⟨_, _, _, _, _, hr⟩, _⟩ := h
  exact hr.c2
theorem Both.c3 (h : Both B F w b rb S R) : w.cell? ⟨rb, 3, none⟩ = some (.int .i64 (fuseV R)) := by
  obtain ⟨_, _, _, ⟨_, _, _, _, _, hr⟩, _⟩ := h
  exact hr.c3
theorem Both.fr (h : Both B F w b rb S R) (o : Nat) : w.frozen? ⟨rb, o, none⟩ = false := by
  obtain ⟨_, _, _, ⟨_, _, _, _, _, hr⟩, _⟩ := h
  exact hr.fr o
theorem Both.ok (h : Both B F w b rb S R) : DvOk R := by
  obtain ⟨_, _, _, ⟨_, _, _, _, _, hr⟩, _⟩ := h
  exact hr.v.ok
theorem Both.val (h : Both B F w b rb S R) : ∃ mb mc sb sc hd rp, RefV w mb mc sb sc hd R rp ∧ w.cell? ⟨rb, 0, none⟩ = some (.slice (some ⟨mb, 0, none⟩) R.med.length mc) ∧ w.cell? ⟨rb, 1, none⟩ = some (.slice (some ⟨sb, 0, none⟩) R.med.length sc) := by
  obtain ⟨_, rp, _, ⟨mb, mc, sb, sc, hd, hr⟩, _⟩ := h
  exact ⟨mb, mc, sb, sc, hd, rp, hr.v, hr.c0, hr.c1⟩
theorem Both.set3 (h : Both B F w b rb S R) (hB : B ≤ w.heap.size) (R2 : Dv) (v : Value) (hv : v = .int .i64 (fuseV R2)) (e1 : R2.med = R.med) (e2 : R2.since = R.since) (e3 : R2.lost = R.lost) (ok : DvOk R2) :
    Both B F (w.setCell ⟨rb, 3, none⟩ v) b rb S R2 ∧ Below B w (w.setCell ⟨rb, 3, none⟩ v) ∧ Kept F w (w.setCell ⟨rb, 3, none⟩ v) := by
  subst hv
  obtain ⟨rp, ⟨mb, mc, sb, sc, hd, hr⟩, _, H⟩ := h.ref hB
  exact H _ R2 ⟨rp, ⟨mb, mc, sb, sc, hd, hr.set3 R2 e1 e2 e3 ok⟩, fun k hk => .inl hk, (Turn.refl _ _).setCell (.inl hr.fb) _⟩
theorem Both.set2 (h : Both B F w b rb S R) (hB : B ≤ w.heap.size) (x : Bool) :
    Both B F (w.setCell ⟨rb, 2, none⟩ (.bool x)) b rb S { R with lost := x } ∧ Below B w (w.setCell ⟨rb, 2, none⟩ (.bool x)) ∧ Kept F w (w.setCell ⟨rb, 2, none⟩ (.bool x)) := by
  obtain ⟨rp, ⟨mb, mc, sb, sc, hd, hr⟩, _, H⟩ := h.ref hB
  exact H _ _ ⟨rp, ⟨mb, mc, sb, sc, hd, hr.set2 x⟩, fun k hk => .inl hk, (Turn.refl _ _).setCell (.inl hr.fb) _⟩
/-- A sector's versions are struck. -/
theorem Both.strike (h : Both B F w b rb S R) (hB : B ≤ w.heap.size) (k : Nat) (hk : k < R.med.length) :
    ∃ sb sc u, w.cell? ⟨rb, 1, none⟩ = some (.slice (some ⟨sb, 0, none⟩) R.med.length sc) ∧ w.cell? ⟨sb, k, none⟩ = some u ∧ w.frozen? ⟨sb, k, none⟩ = false ∧
      Both B F (w.setCell ⟨sb, k, none⟩ (.slice none 0 0)) b rb S { R with since := fun i => if i = k then [] else R.since i } ∧ Below B w (w.setCell ⟨sb, k, none⟩ (.slice none 0 0)) ∧ Kept F w (w.setCell ⟨sb, k, none⟩ (.slice none 0 0)) := by
  obtain ⟨rp, ⟨mb, mc, sb, sc, hd, hr⟩, _, H⟩ := h.ref hB
  exact ⟨sb, sc, _, hr.c1, hr.v.sin.cells k hk, hr.v.sin.frozen k, H _ _ ⟨rp, ⟨mb, mc, sb, sc, hd, hr.strike k hk⟩, fun k hk => .inl hk, (Turn.refl _ _).setCell (.inl hr.v.fs) _⟩⟩
theorem Both.assign (h : Both B F w b rb S R) (hB : B ≤ w.heap.size) {w4 : World} {mb' mc' sb' sc' : Nat} {hd' : Nat → Nat × Nat} {R2 : Dv} {rp' : Nat → Prop} (b4 : Below w.heap.size w w4) (hV : RefV w4 mb' mc' sb' sc' hd' R2 rp') (hrp : ∀ k, rp' k → w.heap.size ≤ k) :
    Both B F (set4 w4 rb (.slice (some ⟨mb', 0, none⟩) R2.med.length mc') (.slice (some ⟨sb', 0, none⟩) R2.med.length sc') (.bool R2.lost) (.int .i64 (fuseV R2))) b rb S R2 ∧
      Below B w (set4 w4 rb (.slice (some ⟨mb', 0, none⟩) R2.med.length mc') (.slice (some ⟨sb', 0, none⟩) R2.med.length sc') (.bool R2.lost) (.int .i64 (fuseV R2))) ∧
      Kept F w (set4 w4 rb (.slice (some ⟨mb', 0, none⟩) R2.med.length mc') (.slice (some ⟨sb', 0, none⟩) R2.med.length sc') (.bool R2.lost) (.int .i64 (fuseV R2))) := by
  obtain ⟨rp, ⟨mb, mc, sb, sc, hd, hr⟩, _, H⟩ := h.ref hB
  exact H _ R2 (ref_assign hr b4 hV hrp)
theorem cntB_mono (R : Dv) (k d : Nat) : cntB R k ≤ cntB R (k + d) := by
  unfold cntB
  rw [List.range_add, List.filter_append]
  simp
theorem cntB_lt {R : Dv} {k : Nat} (hk : k < R.med.length) (hs : R.since k ≠ []) : cntB R k < R.keys.length := by
  have h1 := cntB_some hs
  have h2 := cntB_mono R (k + 1) (R.med.length - (k + 1))
  rw [show k + 1 + (R.med.length - (k + 1)) = R.med.length by omega] at h2
  have h3 : cntB R R.med.length = R.keys.length := rfl
  omega
def Dv.lose (S : Dv) (k : Nat) : Dv := { S with lost := true, since := fun i => if i < k then [] else S.since i }
theorem lose_zero (S : Dv) : S.lose 0 = { S with lost := true } := by
  unfold Dv.lose
  simp
theorem lose_succ (S : Dv) (k : Nat) : { S.lose k with since := fun i => if i = k then [] else (S.lose k).since i } = S.lose (k + 1) := by
  unfold Dv.lose
  simp only [Dv.mk.injEq, true_and, and_true]
  funext i
  by_cases e : i = k
  · subst e; simp
  · by_cases h : i < k
    · simp [e, h]; omega
    · rw [if_neg e, if_neg h, if_neg (by omega)]
theorem Both.loseEnd {S0 : Dv} (h : Both B F w b rb S0 (S.lose S.med.length)) : Both B F w b rb S0 { S.bare with lost := true } := by
  have ok := h.ok
  refine h.as rfl ?_ rfl rfl ⟨ok.n1, ok.n2, fun _ _ => rfl, ok.left, fun _ => Nat.zero_le _⟩
  funext i
  show [] = if i < S.med.length then [] else S.since i
  split
  · rfl
  · have := ok.out i (by show S.med.length ≤ i; omega)
    unfold Dv.lose at this
    simp only at this
    rw [if_neg (by omega)] at this
    exact this.symm
theorem full_size (c : UInt8) : (strOf (fullS c)).size = 64 := by simp [strOf_size, fullS]
theorem spoil_still (b : Nat) (S : Dv) (fp : Nat → Prop) (k p : Int) (c : UInt8) (w : World) (h : DevAt w b S fp) (hn : S.spoilB k c = false) :
    Calls Try.prog 23 #[.pointer (some ⟨b, 0, none⟩), .int .i64 k, .int .i64 p, .int .u8 (c.toNat : Int)] w fun e w' => e = .returned (.bool false) ∧ w = w' := by
  by_cases h0 : c = 0
  · subst h0
    exact spoil_zero _ k p w
  · have hr : ¬ reachE S k = 0 := fun e => by simp [Dv.spoilB, h0, e] at hn
    refine spoil_no b S fp k p _ w h ?_ hr
    simp
    intro e; apply h0; exact UInt8.toNat_inj.1 (by simpa using e)
theorem Dv.ext' {S R : Dv} (h1 : S.med = R.med) (h2 : S.since = R.since) (h3 : S.lost = R.lost) (h4 : S.fused = R.fused) (h5 : S.left = R.left) (h6 : S.cnt = R.cnt) : S = R := by
  cases S; cases R; simp_all
end
end Go.Proofs.Ytmkheikllbjcbaa
