/-
  What a crash leaves.
-/
import Derived.Test.YtmkheikllbjcbaaDr
namespace Go.Proofs.Ytmkheikllbjcbaa
open Go.RowKit Go.Maps

theorem getD_set (l : List Sec) (i j : Nat) (x : Sec) (hi : i < l.length) : (l.set i x).getD j [] = if j = i then x else l.getD j [] := by
  simp only [List.getD_eq_getElem?_getD]
  by_cases e : j = i
  · subst e
    rw [List.getElem?_set_self hi, if_pos rfl]
    rfl
  · rw [List.getElem?_set_ne (by omega), if_neg e]
theorem getD_mem (l : List Sec) (q : Nat) (h : q < l.length) : l.getD q [] ∈ l := by
  rw [List.getD_eq_getElem?_getD, List.getElem?_eq_getElem h]
  exact List.getElem_mem h
/-- What a crash leaves of a sector is what stood on the medium, or one of what was written since. -/
theorem crashTo_in (S : Dv) (h : DvOk S) (l : List Int) (t : Nat) (ht : t ≤ S.keys.length) (k : Nat) : (S.crashTo l t).med.getD k [] ∈ S.med.getD k [] :: S.since k := by
  induction t with
  | zero => exact List.mem_cons_self
  | succ t ih =>
    have ih := ih (by omega)
    unfold Dv.crashTo
    split
    · obtain ⟨e1, e2, _, _⟩ := crashTo_since S l t
      obtain ⟨h1, h2⟩ := keys_at h t (by omega)
      unfold Dv.settle
      simp only
      rw [getD_set _ _ _ _ (by rw [e2]; exact h1)]
      split
      · rename_i e
        subst e
        rw [e1]
        generalize hq : (l.getD t 0 % ((S.since (S.keys.getD t 0)).length + 1 : Int)).toNat = q
        have hq' : q < (S.since (S.keys.getD t 0)).length + 1 := by
          have := Int.emod_lt_of_pos (l.getD t 0) (show 0 < ((S.since (S.keys.getD t 0)).length + 1 : Int) by omega)
          have := Int.emod_nonneg (l.getD t 0) (show ((S.since (S.keys.getD t 0)).length + 1 : Int) ≠ 0 by omega)
          omega
        cases q with
        | zero => rw [List.getD_cons_zero]; exact ih
        | succ q =>
          rw [List.getD_cons_succ]
          exact List.mem_cons_of_mem _ (getD_mem _ q (by omega))
      · exact ih
    · exact ih
theorem crash_in {S : Dv} (h : DvOk S) (l : List Int) (k : Nat) : (S.crash l).now k ∈ S.med.getD k [] :: S.since k := crashTo_in S h l _ (Nat.le_refl _) k
theorem crash_len (S : Dv) (l : List Int) : (S.crash l).med.length = S.med.length := (crashTo_since S l _).2.1
theorem crash_calm {S : Dv} (h : S.lost = false) (l : List Int) : Calm (S.crash l) := ⟨by rw [← h]; exact (crashTo_since S l _).2.2.2, rfl⟩
/-- Crash by a list of one number. -/
theorem crash_lit (B b : Nat) (S : Dv) (n : Int) (w : World) (h : DevL B w b S) (hB : B ≤ w.heap.size) (hl : S.lost = false) (hc : S.cnt ≤ 4294967296) :
    Calls Try.prog 17 #[.pointer (some ⟨b, 0, none⟩), .slice (some ⟨w.heap.size, 0, none⟩) 1 1] (w.alloc (.cells #[.int .i64 n] 3)) fun e w' => e = .returned (.tuple #[]) ∧ DevL B w' b (S.crash [n]) ∧ Below B w w' := by
  obtain ⟨fp, hd, hf⟩ := h
  have hb : Below w.heap.size w (w.alloc (.cells #[.int .i64 n] 3)) := (Below.refl _ w).alloc (Nat.le_refl _) _
  have hlt : ∀ k, fp k → k < w.heap.size := by
    obtain ⟨_, _, _, _, hd⟩ := hd
    exact hd.lt
  have hI : Ints fp (w.alloc (.cells #[.int .i64 n] 3)) (.slice (some ⟨w.heap.size, 0, none⟩) 1 1) [n] := by
    refine ⟨_, 1, rfl, Nat.le_refl _, fun j hj => ⟨w.heap.size, 0, rfl, fun e => Nat.lt_irrefl _ (hlt _ e), by simp, ?_⟩⟩
    have : j = 0 := by simpa using hj
    subst this
    simp
  refine (crash_ok b S fp _ [n] _ (hd.below hb) hl hc hI).mono fun _ _ ⟨he, hdid⟩ => ⟨he, ?_⟩
  have := Did.pre (Turn.of_below hb) hdid
  exact this.law hf hB
end Go.Proofs.Ytmkheikllbjcbaa
