/-
  Plain facts on a text's words and its sum (no program is named here).
-/
import Derived.Test.YthpifplflhhkiaaMath
namespace Go.Proofs.Ythpifplflhhkiaa.M
set_option maxRecDepth 100000

/-- A sum's four numbers. -/
structure Q where
  a : Nat
  b : Nat
  c : Nat
  d : Nat
/-- They are numbers of 64 bits. -/
structure Q.Ok (q : Q) : Prop where
  a : q.a < 18446744073709551616
  b : q.b < 18446744073709551616
  c : q.c < 18446744073709551616
  d : q.d < 18446744073709551616
/-- A word more. -/
def stepQ (q : Q) (x : Nat) : Q :=
  ⟨(q.a + x) % 18446744073709551616, (q.b + (q.a + x) % 18446744073709551616) % 18446744073709551616,
    (q.c + (q.b + (q.a + x) % 18446744073709551616) % 18446744073709551616) % 18446744073709551616,
    (q.d + (q.c + (q.b + (q.a + x) % 18446744073709551616) % 18446744073709551616) % 18446744073709551616) % 18446744073709551616⟩
/-- Words more. -/
def sumQ (q : Q) (ws : List Nat) : Q := ws.foldl stepQ q
/-- The sum of nothing. -/
def zeroQ : Q := ⟨0, 0, 0, 0⟩

theorem stepQ_ok (q : Q) (x : Nat) : (stepQ q x).Ok := ⟨Nat.mod_lt _ (by decide), Nat.mod_lt _ (by decide), Nat.mod_lt _ (by decide), Nat.mod_lt _ (by decide)⟩
theorem sumQ_ok : ∀ (ws : List Nat) (q : Q), q.Ok → (sumQ q ws).Ok
  | [], _, h => h
  | x :: ws, q, _ => sumQ_ok ws (stepQ q x) (stepQ_ok q x)
theorem zeroQ_ok : zeroQ.Ok := ⟨by decide, by decide, by decide, by decide⟩
theorem sumQ_append (q : Q) (u v : List Nat) : sumQ q (u ++ v) = sumQ (sumQ q u) v := List.foldl_append
theorem sumQ_snoc (q : Q) (u : List Nat) (x : Nat) : sumQ q (u ++ [x]) = stepQ (sumQ q u) x := by rw [sumQ_append]; rfl
theorem sumQ_nil (q : Q) : sumQ q [] = q := rfl

/-- Word k of a text. -/
def wordAt (l : List UInt8) (k : Nat) : Nat := numL ((l.drop (4 * k)).take 4)
/-- A text's whole words. -/
def wordsL (l : List UInt8) : List Nat := (List.range (l.length / 4)).map (wordAt l)

theorem wordsL_length (l : List UInt8) : (wordsL l).length = l.length / 4 := by simp [wordsL]
theorem wordsL_get {l : List UInt8} {k x : Nat} (h : (wordsL l)[k]? = some x) : k < l.length / 4 ∧ x = wordAt l k := by
  obtain ⟨hk, hx⟩ := List.getElem?_eq_some_iff.1 h
  rw [wordsL_length] at hk
  refine ⟨hk, ?_⟩
  rw [← hx]; simp [wordsL]
theorem wordsL_at {l : List UInt8} {k : Nat} (h : k < l.length / 4) : (wordsL l)[k]? = some (wordAt l k) := by
  rw [List.getElem?_eq_getElem (by rw [wordsL_length]; exact h)]; simp [wordsL]
theorem wordAt_lt (l : List UInt8) (k : Nat) : wordAt l k < 4294967296 := by
  have h1 := numL_lt ((l.drop (4 * k)).take 4)
  have h2 : ((l.drop (4 * k)).take 4).length ≤ 4 := List.length_take_le _ _
  have h3 : (256 : Nat) ^ ((l.drop (4 * k)).take 4).length ≤ 256 ^ 4 := Nat.pow_le_pow_right (by omega) h2
  have h4 : (256 : Nat) ^ 4 = 4294967296 := by decide
  unfold wordAt; omega
theorem take_words {l : List Nat} {k x : Nat} (h : l[k]? = some x) : l.take (k + 1) = l.take k ++ [x] := by
  obtain ⟨hk, rfl⟩ := List.getElem?_eq_some_iff.1 h
  rw [List.take_succ_eq_append_getElem hk]
theorem wordsL_lt (l : List UInt8) : ∀ x ∈ wordsL l, x < 4294967296 := by
  intro x hx
  obtain ⟨k, _, rfl⟩ := List.mem_map.1 hx
  exact wordAt_lt l k
/-- The words of two texts one behind the other, the first one whole. -/
theorem wordsL_append (u v : List UInt8) (h : u.length % 4 = 0) : wordsL (u ++ v) = wordsL u ++ wordsL v := by
  have hu : (u ++ v).length / 4 = u.length / 4 + v.length / 4 := by rw [List.length_append]; omega
  apply List.ext_getElem?
  intro k
  by_cases hk : k < u.length / 4
  · rw [List.getElem?_append_left (by rw [wordsL_length]; exact hk), wordsL_at (by omega), wordsL_at hk]
    unfold wordAt
    rw [List.drop_append_of_le_length (by omega), List.take_append_of_le_length (by rw [List.length_drop]; omega)]
  · rw [List.getElem?_append_right (by rw [wordsL_length]; omega), wordsL_length]
    by_cases hk2 : k < u.length / 4 + v.length / 4
    · rw [wordsL_at (by omega), wordsL_at (by omega)]
      unfold wordAt
      rw [List.drop_append, List.drop_eq_nil_of_le (by omega), List.nil_append]
      rw [show 4 * k - u.length = 4 * (k - u.length / 4) by omega]
    · rw [List.getElem?_eq_none (by rw [wordsL_length]; omega), List.getElem?_eq_none (by rw [wordsL_length]; omega)]
end Go.Proofs.Ythpifplflhhkiaa.M
