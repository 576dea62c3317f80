/-
  U32 and Int at every number, as one list each: nothing of a number that is none.
-/
import Derived.Test.YthpifplflhhkiaaWords
namespace Go.Proofs.Ythpifplflhhkiaa
set_option maxRecDepth 100000
open Go.RowKit M

/-- U32's bytes: of a small number; nothing. -/
def u32L (n : Int) : List UInt8 := if 0 ≤ n ∧ n ≤ 4294967295 then layL n.toNat 4 else []
/-- Int's bytes: of a count; nothing. -/
def intL (n : Int) : List UInt8 := if 0 ≤ n ∧ n ≤ 4611686018427387903 then layL n.toNat 8 else []

theorem u32_all (n : Int) (w : World) :
    Calls Try.prog 34 #[.int .i64 n] w fun e w' => e = .returned (.string ⟨(u32L n).toArray⟩) ∧ Below w.heap.size w w' := by
  by_cases h : 0 ≤ n ∧ n ≤ 4294967295
  · obtain ⟨k, rfl⟩ := Int.eq_ofNat_of_zero_le h.1
    rw [u32L, if_pos h]
    exact u32_any k w (by omega)
  · rw [u32L, if_neg h]
    refine (u32_none n w (by omega)).mono fun e w' ⟨he, hw⟩ => ⟨he, ?_⟩
    rw [← hw]; exact Below.refl _ _
theorem layL_ne {x k : Nat} (hk : 0 < k) : layL x k ≠ [] := by
  intro h
  have := layL_length k x
  rw [h] at this
  simp at this
  omega
theorem u32L_inj (n m : Int) (hn : u32L n ≠ []) (hm : u32L m ≠ []) : u32L n = u32L m ↔ n = m := by
  constructor
  · intro h
    by_cases h1 : 0 ≤ n ∧ n ≤ 4294967295
    · by_cases h2 : 0 ≤ m ∧ m ≤ 4294967295
      · rw [u32L, u32L, if_pos h1, if_pos h2] at h
        have := layL_inj (k := 4) (by show n.toNat < 4294967296; omega) (by show m.toNat < 4294967296; omega) h
        omega
      · exact absurd (by rw [u32L, if_neg h2]) hm
    · exact absurd (by rw [u32L, if_neg h1]) hn
  · rintro rfl; rfl
theorem intL_inj (n m : Int) (hn : intL n ≠ []) (hm : intL m ≠ []) : intL n = intL m ↔ n = m := by
  constructor
  · intro h
    by_cases h1 : 0 ≤ n ∧ n ≤ 4611686018427387903
    · by_cases h2 : 0 ≤ m ∧ m ≤ 4611686018427387903
      · rw [intL, intL, if_pos h1, if_pos h2] at h
        have := layL_inj (k := 8) (by show n.toNat < 18446744073709551616; omega) (by show m.toNat < 18446744073709551616; omega) h
        omega
      · exact absurd (by rw [intL, if_neg h2]) hm
    · exact absurd (by rw [intL, if_neg h1]) hn
  · rintro rfl; rfl
theorem lay8_iff (x y : Nat) (hx : x < 18446744073709551616) (hy : y < 18446744073709551616) : layL x 8 = layL y 8 ↔ x = y :=
  ⟨layL_inj (k := 8) hx hy, fun h => by rw [h]⟩
end Go.Proofs.Ythpifplflhhkiaa
