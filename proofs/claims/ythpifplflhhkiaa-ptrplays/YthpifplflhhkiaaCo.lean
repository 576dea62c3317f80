/-
  A place that came in, opened; cols.Of of any block.
-/
import Derived.Test.YthpifplflhhkiaaCe
namespace Go.Proofs.Ythpifplflhhkiaa
set_option maxRecDepth 100000
open Go.RowKit

theorem open_place {H : Type} {enc : TypeId × Value → H} {W : World} {base : Nat} {v : Value} {d : DataW H} {p : List MemPlace}
    (hok : Value.okWide Try.prog W .any base 23 v) (h : DataW.Trod enc Try.prog W 0 (fun _ => true) true 23 v d p) :
    ∃ k t : Int, v = .agg #[.int .i64 k, .int .i64 t] ∧ (-9223372036854775808 ≤ k ∧ k ≤ 9223372036854775807) ∧ (-9223372036854775808 ≤ t ∧ t ≤ 9223372036854775807) := by
  have hc2 : Try.prog.cellsOf 23 = 2 := by kernel_rfl
  obtain ⟨cs, rfl, hsz, _⟩ : ∃ cs, v = .agg cs ∧ cs.size = Try.prog.cellsOf 23 ∧ Row.okWide Try.prog W .any base 23 cs := by
    simpa [Value.okWide, Try.underlying23] using hok
  rw [hc2] at hsz
  obtain ⟨ll⟩ := cs
  match ll, hsz with
  | [c0, c1], _ =>
  obtain ⟨fuel, hf⟩ := h
  obtain ⟨xs, n', _, _, _, hxl, hfld⟩ := DataW.trod_struct Try.underlying23 hf
  have hx : xs.length = 2 := hxl
  match xs, hx with
  | [y0, y1], _ =>
  have k3 : Try.prog.cellsOf 3 = 1 := by kernel_rfl
  have e0 : DataW.trod enc Try.prog W 0 (fun _ => true) true n' 3 (([c0, c1].drop 0).take (Try.prog.cellsOf 3)) = some y0 := hfld 0 _ rfl
  have e1 : DataW.trod enc Try.prog W 0 (fun _ => true) true n' 3 (([c0, c1].drop 1).take (Try.prog.cellsOf 3)) = some y1 := hfld 1 _ rfl
  rw [k3] at e0 e1
  obtain ⟨d0, hd0, _, w0⟩ := DataW.trod_int Try.underlying3 e0
  obtain ⟨d1, hd1, _, w1⟩ := DataW.trod_int Try.underlying3 e1
  simp at hd0 hd1
  subst hd0 hd1
  exact ⟨d0, d1, rfl, bounds_i64 w0, bounds_i64 w1⟩

abbrev I64 (n : Int) : Prop := -9223372036854775808 ≤ n ∧ n ≤ 9223372036854775807
/-- What Of answers of any block. -/
def OfB (l : List (Int × Int)) (s k t z : Int) (B : Nat) (w : World) (v : Value) (er : Int) : Prop :=
  (mayL l s k t z = false ∧ v = .slice none 0 0 ∧ er = 1) ∨ ∃ k' t' z' : Nat, k = k' ∧ t = t' ∧ z = z' ∧ Blk l s k' t' z' ∧ er = 0 ∧ OwnC B w v (colsOf l k' t' z')
theorem of_any (l : List (Int × Int)) (s : Int) (v : Value) (w : World) (h : Meas w v l s) (k t z : Int) (hk : I64 k) (ht : I64 t) (hz : I64 z) :
    Calls Try.prog 42 #[v, .agg #[.int .i64 k, .int .i64 t], .int .i64 z] w fun e w' => ∃ v' er, e = .returned (.tuple #[v', .int .i64 er]) ∧ OfB l s k t z w.heap.size w' v' er ∧ Below w.heap.size w w' := by
  cases hm : mayL l s k t z with
  | false => exact (of_bad l s v w h k t z hk ht hz hm).mono fun e w' ⟨h1, h2⟩ => ⟨_, _, h1, .inl ⟨hm, rfl, rfl⟩, h2⟩
  | true =>
    obtain ⟨k', t', z', rfl, rfl, rfl, hB⟩ := mayL_iff.1 hm
    exact (of_ok l s v w h k' t' z' hB).mono fun e w' ⟨v', h1, h2, h3⟩ => ⟨_, _, h1, .inr ⟨k', t', z', rfl, rfl, rfl, hB, rfl, h2⟩, h3⟩
end Go.Proofs.Ythpifplflhhkiaa
