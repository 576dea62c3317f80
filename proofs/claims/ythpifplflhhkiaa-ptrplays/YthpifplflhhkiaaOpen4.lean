/-
  A sum that came in, opened: four numbers of 64 bits.
-/
import Derived.Test.YthpifplflhhkiaaFm
import Derived.Test.YthpifplflhhkiaaChecked
import Derived.WalkKit
import Derived.ProofKit
import Derived.OpenShut
import Derived.Laws.IdiomArrays
import Derived.ChangeSame
namespace Go.Proofs.Ythpifplflhhkiaa
set_option maxRecDepth 100000
open Go.RowKit M Go.ChangeShapes

theorem bounds_q {n : Int} (h : (Lit.int .u64 n).wf = true) : 0 ≤ n ∧ n ≤ 18446744073709551615 := by
  simpa [Lit.wf, IntKind.min, IntKind.max, IntKind.signed, IntKind.bits] using h
theorem list_four (l : List Value) (h : l.length = 4) : ∃ a b c d, l = [a, b, c, d] := by
  match l, h with
  | [a, b, c, d], _ => exact ⟨a, b, c, d, rfl⟩
theorem open_sum {H : Type} {enc : TypeId × Value → H} {W : World} {base : Nat} {v : Value} {d : DataW H} {p : List MemPlace}
    (hok : Value.okWide Try.prog W .any base 26 v) (h : DataW.Trod enc Try.prog W 0 (fun _ => true) true 26 v d p) :
    ∃ q : Q, q.Ok ∧ v = .agg #[.int .u64 q.a, .int .u64 q.b, .int .u64 q.c, .int .u64 q.d] := by
  have hc : Try.prog.cellsOf 24 = 1 := by kernel_rfl
  have hc4 : Try.prog.cellsOf 26 = 4 := by kernel_rfl
  obtain ⟨cs, rfl, hsz, _⟩ : ∃ cs, v = .agg cs ∧ cs.size = Try.prog.cellsOf 26 ∧ Row.okWide Try.prog W .any base 26 cs := by
    simpa [Value.okWide, Try.underlying26] using hok
  rw [hc4] at hsz
  obtain ⟨l⟩ := cs
  obtain ⟨c0, c1, c2, c3, rfl⟩ := list_four l hsz
  obtain ⟨fuel, hf⟩ := h
  obtain ⟨y0, y1, y2, y3, m, hx, hy0, hy1, hy2, hy3⟩ := trod_array4 Try.underlying26 hc hf
  obtain ⟨x0, e0, _, w0⟩ := DataW.trod_int Try.underlying24 hy0
  obtain ⟨x1, e1, _, w1⟩ := DataW.trod_int Try.underlying24 hy1
  obtain ⟨x2, e2, _, w2⟩ := DataW.trod_int Try.underlying24 hy2
  obtain ⟨x3, e3, _, w3⟩ := DataW.trod_int Try.underlying24 hy3
  simp at e0 e1 e2 e3
  subst e0 e1 e2 e3
  obtain ⟨a0, a1⟩ := bounds_q w0
  obtain ⟨b0, b1⟩ := bounds_q w1
  obtain ⟨c0, c1⟩ := bounds_q w2
  obtain ⟨d0, d1⟩ := bounds_q w3
  obtain ⟨n0, rfl⟩ := Int.eq_ofNat_of_zero_le a0
  obtain ⟨n1, rfl⟩ := Int.eq_ofNat_of_zero_le b0
  obtain ⟨n2, rfl⟩ := Int.eq_ofNat_of_zero_le c0
  obtain ⟨n3, rfl⟩ := Int.eq_ofNat_of_zero_le d0
  exact ⟨⟨n0, n1, n2, n3⟩, ⟨by show n0 < _; omega, by show n1 < _; omega, by show n2 < _; omega, by show n3 < _; omega⟩, rfl⟩
end Go.Proofs.Ythpifplflhhkiaa
