/-
  ptr.Places: what it answers.
-/
import Derived.Test.YthpifplflhhkiaaQb
namespace Go.Proofs.Ythpifplflhhkiaa
set_option maxRecDepth 100000
open Go.RowKit M

/-- The places that a slice holds. -/
def PlsV (w : World) (v : Value) (x : Ptr) : Prop :=
  (x = noP ∧ v = .slice none 0 0) ∨
  (x ≠ noP ∧ x.two = true ∧ ∃ g, v = .slice (some ⟨g, 0, none⟩) 2 2 ∧ g < w.heap.size ∧ w.cell? ⟨g, 0, none⟩ = some (.int .i64 x.ag) ∧ w.cell? ⟨g, 1, none⟩ = some (.int .i64 x.aa) ∧ w.cell? ⟨g, 2, none⟩ = some (.int .i64 x.bg) ∧ w.cell? ⟨g, 3, none⟩ = some (.int .i64 x.ba)) ∨
  (x ≠ noP ∧ x.two = false ∧ ∃ g, v = .slice (some ⟨g, 0, none⟩) 1 1 ∧ g < w.heap.size ∧ w.cell? ⟨g, 0, none⟩ = some (.int .i64 x.ag) ∧ w.cell? ⟨g, 1, none⟩ = some (.int .i64 x.aa))

theorem places_any (x : Ptr) (w : World) :
    Calls Try.prog 17 #[x.val] w fun e w' => ∃ v, e = .returned v ∧ PlsV w' v x ∧ Below w.heap.size w w' := by
  have K := Lib.hid (Box.new w x)
  unfold Ptr.cells at K
  obtain ⟨b, hb⟩ : ∃ b, eqP x noP = b := ⟨_, rfl⟩
  have HN := Lib.hid (none_any x · b hb)
  have HB := Lib.hid hb
  clear hb
  simp only [Ptr.val, Ptr.cells] at HN ⊢
  go_enter Try.func17, Try.ntmps17
  cases b with
  | true =>
    have e := eqP_iff.1 HB.out
    have HE := Lib.hid e
    clear e
    go_wp2_with fail
    refine (HN.out _).mono ?_
    rintro e w1 ⟨rfl, b1⟩
    have HW := Lib.hid (next (boxed w _) b1)
    clear b1 K HN
    go_wp2
    go_ret
    exact ⟨_, rfl, .inl ⟨HE.out, rfl⟩, HW.out⟩
  | false =>
    have HE := Lib.hid (eqP_not.1 HB.out)
    go_wp2_with fail
    refine (HN.out _).mono ?_
    rintro e w1 ⟨rfl, b1⟩
    have HW := Lib.hid (next (boxed w _) b1)
    obtain ⟨c0, c1, c2, c3, c4, c5, c6, c7, c8, c9, c10, c11, hlt⟩ := K.out.next b1
    clear b1 K HN
    by_cases ht : x.two = true
    · rw [ht] at c4
      have HT := Lib.hid ht
      clear ht
      go_wp2
      go_ret
      exact ⟨_, rfl, .inr (.inl ⟨HE.out, HT.out, _, rfl, by simp, by simp, by simp, by simp, by simp⟩), next HW.out (boxed _ _)⟩
    · have ht' : x.two = false := by simpa using ht
      have HT := Lib.hid ht'
      rw [ht'] at c4
      clear ht ht'
      go_wp2
      go_ret
      exact ⟨_, rfl, .inr (.inr ⟨HE.out, HT.out, _, rfl, by simp, by simp, by simp⟩), next HW.out (boxed _ _)⟩
end Go.Proofs.Ythpifplflhhkiaa
