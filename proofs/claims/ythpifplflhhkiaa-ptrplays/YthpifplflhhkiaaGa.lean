/-
  A measure: its groups as a list of pairs (kind, devices), and its sectors; how it lies in memory; a measure that came in, opened.
-/
import Derived.Test.YthpifplflhhkiaaKit
import Derived.Deep.RegionHeld3
namespace Go.Proofs.Ythpifplflhhkiaa
set_option maxRecDepth 100000
open Go.RowKit

theorem bounds_i64 {n : Int} (h : (Lit.int .i64 n).wf = true) : -9223372036854775808 ≤ n ∧ n ≤ 9223372036854775807 := by
  simpa [Lit.wf, IntKind.min, IntKind.max, IntKind.signed, IntKind.bits] using h

/-- A group's two cells, from o on of block g, an old one. -/
structure IsG (w : World) (g o : Nat) (x : Int × Int) : Prop where
  lt : g < w.heap.size
  c0 : w.cell? ⟨g, o, none⟩ = some (.int .i64 x.1)
  c1 : w.cell? ⟨g, o + 1, none⟩ = some (.int .i64 x.2)
  k0 : -9223372036854775808 ≤ x.1
  k1 : x.1 ≤ 9223372036854775807
  w0 : -9223372036854775808 ≤ x.2
  w1 : x.2 ≤ 9223372036854775807
/-- A slice of groups. -/
def Grps (w : World) (a : Option Addr) (n : Nat) (l : List (Int × Int)) : Prop :=
  n ≤ maxLen ∧ l.length = n ∧ ∀ i (h : i < l.length), ∃ g o, a = some ⟨g, o, none⟩ ∧ IsG w g (o + i * 2) l[i]
/-- A measure. -/
def Meas (w : World) (v : Value) (l : List (Int × Int)) (s : Int) : Prop :=
  ∃ a n c, v = .agg #[.slice a n c, .int .i64 s] ∧ Grps w a n l ∧ -9223372036854775808 ≤ s ∧ s ≤ 9223372036854775807

theorem IsG.below {w w' : World} {g o : Nat} {x : Int × Int} (h : IsG w g o x) (hb : Below w.heap.size w w') : IsG w' g o x := by
  have e : ∀ j, w'.cell? ⟨g, j, none⟩ = w.cell? ⟨g, j, none⟩ := fun j => hb.cell (p := ⟨g, j, none⟩) h.lt
  exact ⟨Nat.lt_of_lt_of_le h.lt hb.size, by rw [e]; exact h.c0, by rw [e]; exact h.c1, h.k0, h.k1, h.w0, h.w1⟩
theorem Grps.below {w w' : World} {a : Option Addr} {n : Nat} {l : List (Int × Int)} (h : Grps w a n l) (hb : Below w.heap.size w w') : Grps w' a n l := by
  obtain ⟨h1, h2, h3⟩ := h
  refine ⟨h1, h2, fun i hi => ?_⟩
  obtain ⟨g, o, ha, hx⟩ := h3 i hi
  exact ⟨g, o, ha, hx.below hb⟩
theorem Meas.below {w w' : World} {v : Value} {l : List (Int × Int)} {s : Int} (h : Meas w v l s) (hb : Below w.heap.size w w') : Meas w' v l s := by
  obtain ⟨a, n, c, hv, hg, hs⟩ := h
  exact ⟨a, n, c, hv, hg.below hb, hs⟩
/-- Worlds that grow one behind the other. -/
theorem next {w w1 w2 : World} (h : Below w.heap.size w w1) (k : Below w1.heap.size w1 w2) : Below w.heap.size w w2 := h.trans (k.mono h.size)
theorem boxed (w : World) (o : Obj) : Below w.heap.size w (w.alloc o) := (Below.refl _ w).alloc (Nat.le_refl _) o

theorem open_geom {H : Type} {enc : TypeId × Value → H} {W : World} {base : Nat} {v : Value} {d : DataW H} {p : List MemPlace}
    (hok : Value.okWide Try.prog W .any base 41 v) (h : DataW.Trod enc Try.prog W 0 (fun _ => true) true 41 v d p) :
    ∃ l s, Meas W v l s := by
  have hc2 : Try.prog.cellsOf 41 = 2 := by kernel_rfl
  obtain ⟨cs, rfl, hsz, _⟩ : ∃ cs, v = .agg cs ∧ cs.size = Try.prog.cellsOf 41 ∧ Row.okWide Try.prog W .any base 41 cs := by
    simpa [Value.okWide, Try.underlying41] using hok
  rw [hc2] at hsz
  obtain ⟨ll⟩ := cs
  match ll, hsz with
  | [c0, c1], _ =>
  obtain ⟨fuel, hf⟩ := h
  obtain ⟨xs, n', _, _, _, hxl, hfld⟩ := DataW.trod_struct Try.underlying41 hf
  have hx : xs.length = 2 := hxl
  match xs, hx with
  | [y0, y1], _ =>
  have k3 : Try.prog.cellsOf 3 = 1 := by kernel_rfl
  have k22 : Try.prog.cellsOf 39 = 1 := by kernel_rfl
  have e0 : DataW.trod enc Try.prog W 0 (fun _ => true) true n' 39 (([c0, c1].drop 0).take (Try.prog.cellsOf 39)) = some y0 := hfld 0 _ rfl
  have e1 : DataW.trod enc Try.prog W 0 (fun _ => true) true n' 3 (([c0, c1].drop 1).take (Try.prog.cellsOf 3)) = some y1 := hfld 1 _ rfl
  rw [k22] at e0
  rw [k3] at e1
  obtain ⟨s, hs, _, ws⟩ := DataW.trod_int Try.underlying3 e1
  simp at hs
  subst hs
  obtain ⟨s0, s1⟩ := bounds_i64 ws
  have e0' : DataW.trod enc Try.prog W 0 (fun _ => true) true n' 39 [c0] = some y0 := e0
  obtain ⟨a, len, cap, rfl⟩ : ∃ a len cap, c0 = .slice a len cap := by
    rcases Go.Deep.open_slice Try.underlying39 e0' with ⟨h0, _⟩ | ⟨x, len', cap', m, n, D, Pl, h0, _⟩
    · simp only [List.cons.injEq, and_true] at h0
      exact ⟨_, _, _, h0⟩
    · simp only [List.cons.injEq, and_true] at h0
      exact ⟨_, _, _, h0⟩
  have hC : Try.prog.cellsOf 69 = 2 := by kernel_rfl
  obtain ⟨hl, hi⟩ := slice_elems Try.underlying39 (by rw [hC]; omega) e0'
  have hone : ∀ i, i < len → ∃ x : Int × Int, ∃ g o, a = some ⟨g, o, none⟩ ∧ IsG W g (o + i * 2) x := fun i hlt => by
    obtain ⟨b, off, cs, n, y, rfl, hb, hlen, hcell, ht⟩ := hi i hlt
    rw [hC] at hlen hcell
    obtain ⟨xs, n', _, _, _, hxl, hfld⟩ := DataW.trod_struct Try.underlying69 ht
    match cs, hlen with
    | [v0, v1], _ =>
      have hx : xs.length = 2 := hxl
      match xs, hx with
      | [y0, y1], _ =>
        have e0 : DataW.trod enc Try.prog W 0 (fun _ => true) true n' 3 (([v0, v1].drop 0).take (Try.prog.cellsOf 3)) = some y0 := hfld 0 _ rfl
        have e1 : DataW.trod enc Try.prog W 0 (fun _ => true) true n' 3 (([v0, v1].drop 1).take (Try.prog.cellsOf 3)) = some y1 := hfld 1 _ rfl
        rw [k3] at e0 e1
        obtain ⟨d0, hd0, _, w0⟩ := DataW.trod_int Try.underlying3 e0
        obtain ⟨d1, hd1, _, w1⟩ := DataW.trod_int Try.underlying3 e1
        simp at hd0 hd1
        subst hd0 hd1
        obtain ⟨a0, a1⟩ := bounds_i64 w0
        obtain ⟨b0, b1⟩ := bounds_i64 w1
        have h0 := hcell 0 (by omega)
        have h1 := hcell 1 (by omega)
        refine ⟨(d0, d1), b, off, rfl, ⟨hb, ?_, ?_, a0, a1, b0, b1⟩⟩
        · simpa using h0
        · simpa [Nat.add_assoc] using h1
  have hsuf : ∀ n, n ≤ len → ∃ l : List (Int × Int), l.length = n ∧ ∀ i (h : i < l.length), ∃ g o, a = some ⟨g, o, none⟩ ∧ IsG W g (o + i * 2) l[i] := by
    intro n
    induction n with
    | zero => exact fun _ => ⟨[], rfl, fun i h => absurd h (Nat.not_lt_zero _)⟩
    | succ n ih =>
      intro hn
      obtain ⟨l, h1, h2⟩ := ih (by omega)
      obtain ⟨x, hx⟩ := hone n (by omega)
      refine ⟨l ++ [x], by simp [h1], fun i hi => ?_⟩
      by_cases e : i < l.length
      · rw [List.getElem_append_left e]; exact h2 i e
      · have : i = n := by simp at hi; omega
        subst this
        rw [List.getElem_append_right (by omega)]
        simp [h1]
        exact hx
  obtain ⟨l, h1, h2⟩ := hsuf len (Nat.le_refl _)
  exact ⟨l, s, a, len, cap, rfl, ⟨hl, h1, h2⟩, s0, s1⟩
end Go.Proofs.Ythpifplflhhkiaa
