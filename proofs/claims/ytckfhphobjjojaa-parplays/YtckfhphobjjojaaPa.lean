/-
  polderlaw03.awake, par.Right: what they answer.
-/
import Derived.Test.YtckfhphobjjojaaPk
namespace Go.Proofs.Ytckfhphobjjojaa
open Go.RowKit M

/-- How two texts are compared. -/
theorem eq_txt (p q : ByteArray) : (p.toList == q.toList) = decide (p = q) := by
  by_cases h : p = q
  · subst h; simp
  · have : p.toList ≠ q.toList := by
      rw [ByteArray.toList_eq, ByteArray.toList_eq]
      exact fun e => h (extL e)
    rw [decide_eq_false h]
    exact beq_eq_false_iff_ne.2 this

theorem awake_any (w : World) : Calls Try.prog 8 #[] w fun e w' => e = .returned (.bool true) ∧ Below w.heap.size w w' := by
  go_enter Try.func8, Try.ntmps8
  go_wp2_with fail
  refine (make_any [⟨#[1, 2]⟩, ⟨#[4, 6]⟩] _ _ (own_lit w w.heap.size [⟨#[1, 2]⟩, ⟨#[4, 6]⟩] (Nat.le_refl _) (by decide)).txt (by decide) (by decide)).mono ?_
  rw [show mkB [⟨#[1, 2]⟩, ⟨#[4, 6]⟩] = ⟨#[5, 4]⟩ from by decide +kernel, show mkE [⟨#[1, 2]⟩, ⟨#[4, 6]⟩] = 0 from by decide +kernel]
  rintro e w1 ⟨rfl, b1⟩
  go_wp2
  go_ret
  exact ⟨rfl, early2 ((Below.refl _ w).alloc (Nat.le_refl _) _) b1⟩

theorem right_any (p : ByteArray) (l : List ByteArray) (v : Value) (w : World) (h : Txt w v l) (hm : l.length ≤ maxLen) (hz : ∀ s ∈ l, s.size ≤ maxLen) (b : Bool) (hb : (okL l && decide (p = parB l)) = b) :
    Calls Try.prog 13 #[.string p, v] w fun e w' => e = .returned (.bool b) ∧ Below w.heap.size w w' := by
  have HM := Lib.hid (make_any l v w h hm hz)
  have HB := Lib.hid hb
  clear h hm hz hb
  go_enter Try.func13, Try.ntmps13
  go_wp2_with fail
  refine HM.out.mono ?_
  rintro e w1 ⟨rfl, b1⟩
  cases ho : okL l with
  | true =>
    obtain ⟨h1, h2⟩ := mk_ok ho
    rw [h1, h2]
    have hb' := HB.out
    rw [ho] at hb'
    generalize parB l = q at hb' ⊢
    clear h1 h2 ho HM HB
    go_wp2
    go_ret
    exact ⟨by rw [← hb', Bool.true_and, ← eq_txt]; rfl, b1⟩
  | false =>
    obtain ⟨h1, h2⟩ := mk_no ho
    rw [h1, h2]
    have hb' := HB.out
    rw [ho] at hb'
    obtain rfl : false = b := hb'
    clear h1 h2 ho HM HB
    go_wp2
    go_ret
    exact ⟨rfl, b1⟩
end Go.Proofs.Ytckfhphobjjojaa
