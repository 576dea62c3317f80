/-
  Flush.
-/
import Derived.Test.YtmkheikllbjcbaaDf
namespace Go.Proofs.Ytmkheikllbjcbaa
open Go.RowKit Go.Maps

/-- What is on the map D: the heads of the versions of S. -/
structure Heads (D : DataW Unit) (S : Dv) (hd : Nat → Nat × Nat) : Prop where
  at_ : ∀ k, (Lit.int .i64 k).wf = true → D.atKey (.int .i64 k) .nil = (hdOf S hd k).dat
  has : ∀ k, (Lit.int .i64 k).wf = true → Maps.has D (.int .i64 k) = (hdOf S hd k).isSome

theorem head_some {S : Dv} {hd : Nat → Nat × Nat} {x : Int} (h : (hdOf S hd x).isSome = true) : ∃ k : Nat, x = k ∧ S.since k ≠ [] ∧ hdOf S hd x = some ((hd k).1, (S.since k).length, (hd k).2) := by
  unfold hdOf at h ⊢
  split at h
  · cases h
  · rename_i hn
    rw [if_neg hn]
    exact ⟨x.toNat, by omega, fun e => hn (.inr e), rfl⟩
theorem head_of {S : Dv} {hd : Nat → Nat × Nat} {k : Nat} (h : S.since k ≠ []) : hdOf S hd (k : Int) = some ((hd k).1, (S.since k).length, (hd k).2) := by
  unfold hdOf
  rw [if_neg (by simpa using h)]
  rfl
theorem head_none {S : Dv} {hd : Nat → Nat × Nat} {k : Nat} (h : S.since k = []) : hdOf S hd (k : Int) = none := by
  unfold hdOf
  rw [if_pos (.inr (by simpa using h))]
/-- The entry that has come. -/
theorem next_key {D : DataW Unit} {S : Dv} {hd : Nat → Nat × Nat} (H : Heads D S hd) {x : Int} {c : Hd} {kl : Lit} {y : DataW Unit × List MemPlace} (hkey : keyOf Try.prog 3 (.int .i64 x) = some kl) (hv : hdr c.val = some y) (hat : ∀ zd, D.atKey kl zd = y.1) :
    ∃ k : Nat, x = k ∧ S.since k ≠ [] ∧ c = some ((hd k).1, (S.since k).length, (hd k).2) ∧ kl = .int .i64 (k : Int) := by
  obtain ⟨x', hx, rfl, hwx⟩ := Maps.keyOf_int_inv Try.underlying3 hkey
  cases hx
  have h1 := Maps.has_true_of_atKey hat
  rw [H.has x hwx] at h1
  obtain ⟨k, rfl, hs, hh⟩ := head_some h1
  refine ⟨k, rfl, hs, ?_, rfl⟩
  rw [hdr_val] at hv
  cases hv
  have h2 := hat .nil
  rw [H.at_ _ hwx] at h2
  rw [← dat_inj h2, hh]

theorem sameKey_int (a b : Int) : (Lit.int .i64 a).sameKey (.int .i64 b) = decide (a = b) := by simp [Lit.sameKey]

/-- The medium on the way of a flush: what is left is as it was. -/
def flushL (S : Dv) (lf : Nat → Bool) : List Sec := (List.range S.med.length).map fun i => if lf i then S.med.getD i [] else S.now i
theorem flushL_len (S : Dv) (lf : Nat → Bool) : (flushL S lf).length = S.med.length := by simp [flushL]
theorem now_none {S : Dv} {i : Nat} (h : S.since i = []) : S.now i = S.med.getD i [] := by simp [Dv.now, h]
theorem flushL_start (S : Dv) (lf : Nat → Bool) (h : ∀ i, i < S.med.length → lf i = false → S.since i = []) : flushL S lf = S.med := by
  apply List.ext_getElem (flushL_len S lf)
  intro i h1 h2
  simp only [flushL, List.getElem_map, List.getElem_range]
  split
  · rw [List.getD_eq_getElem?_getD, List.getElem?_eq_getElem h2]; rfl
  · rename_i hl
    rw [now_none (h i h2 (by simpa using hl)), List.getD_eq_getElem?_getD, List.getElem?_eq_getElem h2]; rfl
theorem flushL_step (S : Dv) (lf lf' : Nat → Bool) (k : Nat) (hk : lf' k = false) (h : ∀ i, i ≠ k → lf' i = lf i) : (flushL S lf).set k (S.now k) = flushL S lf' := by
  apply List.ext_getElem (by simp [flushL])
  intro i h1 h2
  rw [List.getElem_set]
  split
  · rename_i e
    subst e
    simp [flushL, hk]
  · rename_i e
    simp only [flushL, List.getElem_map, List.getElem_range]
    rw [h i (fun e' => e e'.symm)]
/-- Behind a flush. -/
def Dv.flush (S : Dv) : Dv := { S with med := (List.range S.med.length).map S.now, since := fun _ => [], cnt := 0 }
theorem flushL_end (S : Dv) (lf : Nat → Bool) (h : ∀ i, lf i = false) : ({ S with med := flushL S lf } : Dv).bare = S.flush := by
  unfold Dv.bare Dv.flush flushL
  simp [h]
theorem flush_lost (b : Nat) (S : Dv) (fp : Nat → Prop) (w : World) (h : DevAt w b S fp) (hl : S.lost = true) :
    Calls Try.prog 15 #[.pointer (some ⟨b, 0, none⟩)] w fun e w' => e = .returned (.int .i64 6) ∧ w = w' := by
  have hL := lost_any b S fp w h
  rw [hl] at hL
  go_enter Try.func15, Try.ntmps15
  go_wp2_with fail
  refine hL.mono ?_
  rintro e w1 ⟨rfl, rfl⟩
  go_wp2
  go_ret
  exact ⟨rfl, rfl⟩
theorem flush_nil (w : World) :
    Calls Try.prog 15 #[.pointer none] w fun e w' => e = .returned (.int .i64 6) ∧ w = w' := by
  go_enter Try.func15, Try.ntmps15
  go_wp2_with fail
  refine (lost_nil _).mono ?_
  rintro e w1 ⟨rfl, rfl⟩
  go_wp2
  go_ret
  exact ⟨rfl, rfl⟩
theorem flush_fuse (b : Nat) (S : Dv) (fp : Nat → Prop) (w : World) (h : DevAt w b S fp) (hl : S.lost = false) (hp : S.pass = false) :
    Calls Try.prog 15 #[.pointer (some ⟨b, 0, none⟩)] w fun e w' => e = .returned (.int .i64 6) ∧ Did fp b S w w' := by
  have hL := lost_any b S fp w h
  rw [hl] at hL
  obtain ⟨mb, cb, m, hd, h⟩ := h
  have hP := pass_any b mb cb m hd S fp w h
  rw [hp, spent_not hp] at hP
  go_enter Try.func15, Try.ntmps15
  go_wp2_with fail
  refine hL.mono ?_
  rintro e w1 ⟨rfl, rfl⟩
  go_wp2_with fail
  refine hP.mono ?_
  rintro e w1 ⟨rfl, h1, t1, z1⟩
  have Z1 := Lib.hid z1
  clear z1
  go_wp2
  go_ret
  exact ⟨rfl, Did.of h1 t1⟩
end Go.Proofs.Ytmkheikllbjcbaa
