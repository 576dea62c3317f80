/-
  More plain facts on sums (no program is named here): what the first two numbers are, and that one word changed, or two words changed to each other's, give another sum.
-/
import Derived.Test.YtomdfgfappoiiaaFm
namespace Go.Proofs.Ytomdfgfappoiiaa.M

/-- The first number of a sum is what the words come to. -/
theorem sumQ_first : ∀ (ws : List Nat) (q : Q), q.a < 18446744073709551616 → (sumQ q ws).a = (q.a + ws.sum) % 18446744073709551616
  | [], q, h => by simp [sumQ, Nat.mod_eq_of_lt h]
  | x :: ws, q, h => by
    have e : sumQ q (x :: ws) = sumQ (stepQ q x) ws := rfl
    rw [e, sumQ_first ws (stepQ q x) (stepQ_ok q x).a, List.sum_cons]
    show ((q.a + x) % 18446744073709551616 + ws.sum) % 18446744073709551616 = _
    omega
theorem sum_first (u v : List Nat) : (sumQ zeroQ (u ++ v)).a = ((sumQ zeroQ u).a + (sumQ zeroQ v).a) % 18446744073709551616 := by
  rw [sumQ_first _ _ (by decide), sumQ_first _ _ (by decide), sumQ_first _ _ (by decide), List.sum_append]
  show (0 + (u.sum + v.sum)) % _ = ((0 + u.sum) % _ + (0 + v.sum) % _) % _
  omega
theorem sum_swap (u v : List Nat) : (sumQ zeroQ (u ++ v)).a = (sumQ zeroQ (v ++ u)).a := by
  rw [sum_first, sum_first, Nat.add_comm]
end Go.Proofs.Ytomdfgfappoiiaa.M
