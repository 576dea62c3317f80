/-
  Plain facts on sums (no program is named here): one word changed gives another sum, and so do two words changed to each other's; a word's bytes laid anew change that word alone.
-/
import Derived.Test.YtomdfgfappoiiaaFm2
namespace Go.Proofs.Ytomdfgfappoiiaa.M

/-- The words with the weights that the second number gives them. -/
def wt : List Nat → Nat
  | [] => 0
  | x :: ws => (ws.length + 1) * x + wt ws
theorem sumQ_second : ∀ (ws : List Nat) (q : Q), q.b < 18446744073709551616 → (sumQ q ws).b % 18446744073709551616 = (q.b + ws.length * q.a + wt ws) % 18446744073709551616
  | [], q, _ => by simp [sumQ, wt]
  | x :: ws, q, _ => by
    have e : sumQ q (x :: ws) = sumQ (stepQ q x) ws := rfl
    rw [e, sumQ_second ws (stepQ q x) (stepQ_ok q x).b]
    show ((q.b + (q.a + x) % 18446744073709551616) % 18446744073709551616 + ws.length * ((q.a + x) % 18446744073709551616) + wt ws) % 18446744073709551616 = _
    have h1 : ws.length * ((q.a + x) % 18446744073709551616) % 18446744073709551616 = ws.length * (q.a + x) % 18446744073709551616 := by rw [Nat.mul_mod, Nat.mod_mod, ← Nat.mul_mod]
    have h2 : ws.length * (q.a + x) = ws.length * q.a + ws.length * x := Nat.mul_add _ _ _
    have h3 : (x :: ws).length * q.a = ws.length * q.a + q.a := by rw [List.length_cons, Nat.add_mul, Nat.one_mul]
    have h4 : wt (x :: ws) = ws.length * x + x + wt ws := by rw [wt, Nat.add_mul, Nat.one_mul]
    rw [h3, h4]
    omega
theorem wt_set : ∀ (ws : List Nat) (i v : Nat) (h : i < ws.length), wt (ws.set i v) + (ws.length - i) * ws[i] = wt ws + (ws.length - i) * v
  | x :: ws, 0, v, _ => by simp [wt]; omega
  | x :: ws, i + 1, v, h => by
    have hi : i < ws.length := by simpa using h
    have := wt_set ws i v hi
    simp only [List.set_cons_succ, wt, List.length_set, List.length_cons, List.getElem_cons_succ]
    rw [show ws.length + 1 - (i + 1) = ws.length - i by omega]
    omega
theorem sum_set : ∀ (ws : List Nat) (i v : Nat) (h : i < ws.length), (ws.set i v).sum + ws[i] = ws.sum + v
  | x :: ws, 0, v, _ => by simp; omega
  | x :: ws, i + 1, v, h => by
    have hi : i < ws.length := by simpa using h
    have := sum_set ws i v hi
    simp only [List.set_cons_succ, List.sum_cons, List.getElem_cons_succ]
    omega
/-- One word changed. -/
theorem sum_one (ws : List Nat) (i v : Nat) (h : i < ws.length) (hl : ∀ x ∈ ws, x < 4294967296) (hv : v < 4294967296) (hne : v ≠ ws[i]) : sumQ zeroQ (ws.set i v) ≠ sumQ zeroQ ws := by
  intro e
  have e1 := congrArg Q.a e
  rw [sumQ_first _ _ (by decide), sumQ_first _ _ (by decide)] at e1
  have h1 := sum_set ws i v h
  have h2 := hl ws[i] (List.getElem_mem h)
  have z : zeroQ.a = 0 := rfl
  rw [z] at e1
  omega
theorem wt_swap (ws : List Nat) (i j : Nat) (hij : i < j) (hj : j < ws.length) :
    wt ((ws.set i ws[j]).set j (ws[i]'(by omega))) + (ws.length - i) * (ws[i]'(by omega)) + (ws.length - j) * ws[j] = wt ws + (ws.length - i) * ws[j] + (ws.length - j) * (ws[i]'(by omega)) := by
  have h1 := wt_set ws i ws[j] (by omega)
  have h2 := wt_set (ws.set i ws[j]) j (ws[i]'(by omega)) (by rw [List.length_set]; exact hj)
  rw [List.getElem_set_ne (by omega)] at h2
  simp only [List.length_set] at h2
  omega
/-- Two words changed to each other's, the first one ahead. -/
theorem sum_two_lt (ws : List Nat) (i j : Nat) (hij : i < j) (hj : j < ws.length) (hn : ws.length ≤ 1000) (hl : ∀ x ∈ ws, x < 4294967296) (hne : ws[i]'(by omega) ≠ ws[j]) :
    sumQ zeroQ ((ws.set i ws[j]).set j (ws[i]'(by omega))) ≠ sumQ zeroQ ws := by
  intro e
  have e1 : (sumQ zeroQ ((ws.set i ws[j]).set j (ws[i]'(by omega)))).b % 18446744073709551616 = (sumQ zeroQ ws).b % 18446744073709551616 := by rw [e]
  rw [sumQ_second _ _ (by decide), sumQ_second _ _ (by decide)] at e1
  have h1 := wt_swap ws i j hij hj
  have hu := hl (ws[i]'(by omega)) (List.getElem_mem _)
  have hv := hl ws[j] (List.getElem_mem _)
  generalize ws[i]'(by omega) = u at *
  generalize ws[j] = v at *
  simp only [List.length_set] at e1
  have z : zeroQ.b = 0 := rfl
  have za : zeroQ.a = 0 := rfl
  rw [z, za, Nat.mul_zero] at e1
  obtain ⟨d, hd⟩ : ∃ d, j = i + d := ⟨j - i, by omega⟩
  obtain ⟨m, hm⟩ : ∃ m, ws.length = j + m := ⟨ws.length - j, by omega⟩
  rw [show ws.length - i = d + m by omega, show ws.length - j = m by omega, Nat.add_mul, Nat.add_mul] at h1
  have hd0 : 0 < d := by omega
  have hdl : d ≤ 1000 := by omega
  have hdu : d * u ≤ 1000 * 4294967296 := Nat.mul_le_mul hdl (by omega)
  have hdv : d * v ≤ 1000 * 4294967296 := Nat.mul_le_mul hdl (by omega)
  have h2 : d * u = d * v := by
    generalize wt ((ws.set i v).set j u) = A at e1 h1
    generalize wt ws = B at e1 h1
    generalize d * u = x at *
    generalize d * v = y at *
    generalize m * u = x' at *
    generalize m * v = y' at *
    omega
  exact hne (Nat.eq_of_mul_eq_mul_left hd0 h2)
theorem sum_two (ws : List Nat) (i j : Nat) (hi : i < ws.length) (hj : j < ws.length) (hn : ws.length ≤ 1000) (hl : ∀ x ∈ ws, x < 4294967296) (hne : ws[i] ≠ ws[j]) :
    sumQ zeroQ ((ws.set i ws[j]).set j ws[i]) ≠ sumQ zeroQ ws := by
  rcases Nat.lt_trichotomy i j with h | h | h
  · exact sum_two_lt ws i j h hj hn hl hne
  · subst h; exact absurd rfl hne
  · rw [List.set_comm _ _ (by omega)]
    exact sum_two_lt ws j i h hi hn hl (Ne.symm hne)

/-- A text with four bytes laid anew at word i. -/
def put4 (l : List UInt8) (i : Nat) (c : List UInt8) : List UInt8 := l.take (4 * i) ++ (c ++ l.drop (4 * i + 4))
theorem put4_length (l : List UInt8) (i : Nat) (c : List UInt8) (hc : c.length = 4) (h : 4 * i + 4 ≤ l.length) : (put4 l i c).length = l.length := by
  simp [put4, hc]; omega
theorem wordsL_put4 (l : List UInt8) (i : Nat) (c : List UInt8) (hc : c.length = 4) (h : 4 * i + 4 ≤ l.length) : wordsL (put4 l i c) = (wordsL l).set i (numL c) := by
  have hA : (l.take (4 * i)).length = 4 * i := by rw [List.length_take]; omega
  have hw4 : ∀ b : List UInt8, b.length = 4 → wordsL b = [numL b] := fun b hb => by
    simp [wordsL, hb, wordAt, List.range, List.range.loop]
    rw [List.take_of_length_le (by omega)]
  have e : l = l.take (4 * i) ++ ((l.drop (4 * i)).take 4 ++ l.drop (4 * i + 4)) := by
    rw [← List.drop_drop, List.take_append_drop, List.take_append_drop]
  have hB : ((l.drop (4 * i)).take 4).length = 4 := by rw [List.length_take, List.length_drop]; omega
  have h1 : wordsL l = wordsL (l.take (4 * i)) ++ ([numL ((l.drop (4 * i)).take 4)] ++ wordsL (l.drop (4 * i + 4))) := by
    rw [← hw4 _ hB, ← wordsL_append _ _ (by rw [hB]), ← wordsL_append _ _ (by rw [hA]; omega), ← e]
  rw [put4, wordsL_append _ _ (by rw [hA]; omega), wordsL_append _ _ (by rw [hc]), hw4 _ hc, h1]
  have hAl : (wordsL (l.take (4 * i))).length = i := by rw [wordsL_length, hA]; omega
  rw [List.set_append_right _ _ (by omega), hAl, Nat.sub_self]
  rfl
theorem wordsL_getElem (l : List UInt8) (i : Nat) (h : i < (wordsL l).length) : (wordsL l)[i] = numL ((l.drop (4 * i)).take 4) := by
  have := (wordsL_get (l := l) (k := i) (x := (wordsL l)[i]) (List.getElem?_eq_getElem h)).2
  exact this
/-- Unlike words of four bytes are unlike numbers. -/
theorem numL_inj4 {a b : List UInt8} (ha : a.length = 4) (hb : b.length = 4) (h : numL a = numL b) : a = b := by
  have h1 := layL_numL a
  have h2 := layL_numL b
  rw [ha] at h1
  rw [hb, ← h, h1] at h2
  exact h2
end Go.Proofs.Ytomdfgfappoiiaa.M
