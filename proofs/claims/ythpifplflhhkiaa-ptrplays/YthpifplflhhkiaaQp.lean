/-
  A right pointer can be laid, is not none, and its places are unlike (no call is walked here).
-/
import Derived.Test.YthpifplflhhkiaaQo
import Derived.Test.YthpifplflhhkiaaQe
namespace Go.Proofs.Ythpifplflhhkiaa
set_option maxRecDepth 100000
open Go.RowKit M

theorem right_facts {l : List (Int × Int)} {s : Int} {x : Ptr} (h : rightP l s x = true) : mayP x = true ∧ eqP x noP = false ∧ (x.two = true → ¬ (x.ag = x.bg ∧ x.aa = x.ba)) := by
  unfold rightP at h
  rw [Bool.and_eq_true, Bool.and_eq_true, decide_eq_true_eq] at h
  obtain ⟨⟨hr, hA⟩, hB⟩ := h
  obtain ⟨r0, r1, r2, r3⟩ := hr
  obtain ⟨hrm, ⟨k, hk, hkl⟩, z1, z4, a0, a1, t0, t1⟩ := mayL_facts hA
  have hf := hrm.few
  have hb : okN x.bg = true ∧ okN x.ba = true ∧ (x.two = true → ¬ (x.ag = x.bg ∧ x.aa = x.ba)) := by
    cases ht : x.two with
    | true =>
      rw [ht, if_pos rfl, Bool.and_eq_true] at hB
      obtain ⟨hB1, hB2⟩ := hB
      obtain ⟨_, ⟨k2, hk2, hkl2⟩, _, _, b0, b1, _, _⟩ := mayL_facts hB1
      refine ⟨decide_eq_true ⟨by omega, by omega⟩, decide_eq_true ⟨by omega, by omega⟩, fun _ h => ?_⟩
      unfold apartL at hB2
      rw [decide_eq_true_eq] at hB2
      rcases hB2 with e | e | e
      · exact e h.1
      · omega
      · omega
    | false =>
      rw [ht, if_neg (by decide), decide_eq_true_eq] at hB
      obtain ⟨e1, e2⟩ := hB
      exact ⟨decide_eq_true ⟨by omega, by omega⟩, decide_eq_true ⟨by omega, by omega⟩, fun h => by cases h⟩
  obtain ⟨o2, o3, hne⟩ := hb
  have hs : 0 ≤ x.sz ∧ x.sz ≤ 255 ∧ 0 ≤ x.lv ∧ x.lv ≤ 255 := by omega
  have ho : 0 ≤ oneP x ∧ oneP x ≤ 131071 := by unfold oneP; split <;> omega
  refine ⟨?_, eqP_not.2 (fun e => ?_), hne⟩
  · unfold mayP numsP
    rw [Bool.and_eq_true, decide_eq_true_eq]
    refine ⟨hs, ?_⟩
    simp only [List.all_cons, List.all_nil, Bool.and_true, Bool.and_eq_true]
    exact ⟨decide_eq_true ⟨by omega, by omega⟩, decide_eq_true ⟨by omega, by omega⟩, o2, o3, decide_eq_true ⟨by omega, by omega⟩, decide_eq_true ⟨by omega, by omega⟩⟩
  · have : x.bi = 0 := by rw [e]; rfl
    omega
theorem beq_list (y : ByteArray) : (y.toList == y.toList) = true := beq_self_eq_true _
theorem beq_not {y z : ByteArray} (h : y ≠ z) : (y.toList == z.toList) = false := by
  rw [beq_eq_false_iff_ne]
  intro e
  rw [ByteArray.toList_eq, ByteArray.toList_eq] at e
  exact h (ext_list e)
end Go.Proofs.Ythpifplflhhkiaa
