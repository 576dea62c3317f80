/-
  A slice of calls, as it came; the document's example.
-/
import Derived.Test.YtoiiaacjpobaeaaSk
namespace Go.Proofs.Ytoiiaacjpobaeaa
set_option maxRecDepth 100000
open Go.RowKit

/-- A call. -/
structure ActV where
  d : Int
  a : Int
  n : Int
structure IsAct (W : World) (g o : Nat) (x : ActV) : Prop where
  lt : g < W.heap.size
  c0 : W.cell? ⟨g, o, none⟩ = some (.int .u8 x.d)
  c1 : W.cell? ⟨g, o + 1, none⟩ = some (.int .i64 x.a)
  c2 : W.cell? ⟨g, o + 2, none⟩ = some (.int .i64 x.n)
  d0 : 0 ≤ x.d ∧ x.d ≤ 255
  a0 : I64 x.a
  n0 : I64 x.n
def Acts (W : World) (a : Option Addr) (n : Nat) (f : Nat → ActV) : Prop := n ≤ maxLen ∧ ∀ i, i < n → ∃ g o, a = some ⟨g, o, none⟩ ∧ IsAct W g (o + i * 3) (f i)
theorem IsAct.below {W W' : World} {g o : Nat} {x : ActV} (h : IsAct W g o x) (hb : Below W.heap.size W W') : IsAct W' g o x :=
  ⟨Nat.lt_of_lt_of_le h.lt hb.size, (hb.cell (p := ⟨g, o, none⟩) h.lt).trans h.c0, (hb.cell (p := ⟨g, o + 1, none⟩) h.lt).trans h.c1, (hb.cell (p := ⟨g, o + 2, none⟩) h.lt).trans h.c2, h.d0, h.a0, h.n0⟩
theorem Acts.at_ {W W' : World} {a : Option Addr} {n : Nat} {f : Nat → ActV} (h : Acts W a n f) (hb : Below W.heap.size W W') {i : Nat} (hi : i < n) : ∃ g o, a = some ⟨g, o, none⟩ ∧ g < W.heap.size ∧ IsAct W' g (o + i * 3) (f i) := by
  obtain ⟨g, o, ha, hx⟩ := h.2 i hi
  exact ⟨g, o, ha, hx.lt, hx.below hb⟩
theorem act_of {H : Type} {enc : TypeId × Value → H} {W : World} {n : Nat} {cs : List Value} {y : DataW H × List MemPlace} (hlen : cs.length = 3) (ht : DataW.trod enc Try.prog W 0 (fun _ => true) true n 29 cs = some y) :
    ∃ x : ActV, cs = [.int .u8 x.d, .int .i64 x.a, .int .i64 x.n] ∧ (0 ≤ x.d ∧ x.d ≤ 255) ∧ I64 x.a ∧ I64 x.n := by
  obtain ⟨xs, n', _, _, _, hxl, hfld⟩ := DataW.trod_struct Try.underlying29 ht
  match cs, hlen with
  | [v0, v1, v2], _ =>
    have hx : xs.length = 3 := hxl
    match xs, hx with
    | [y0, y1, y2], _ =>
      have k5 : Try.prog.cellsOf 5 = 1 := by kernel_rfl
      have k3 : Try.prog.cellsOf 3 = 1 := by kernel_rfl
      have e0 : DataW.trod enc Try.prog W 0 (fun _ => true) true n' 5 (([v0, v1, v2].drop 0).take (Try.prog.cellsOf 5)) = some y0 := hfld 0 _ rfl
      have e1 : DataW.trod enc Try.prog W 0 (fun _ => true) true n' 3 (([v0, v1, v2].drop 1).take (Try.prog.cellsOf 3)) = some y1 := hfld 1 _ rfl
      have e2 : DataW.trod enc Try.prog W 0 (fun _ => true) true n' 3 (([v0, v1, v2].drop 2).take (Try.prog.cellsOf 3)) = some y2 := hfld 2 _ rfl
      rw [k5] at e0
      rw [k3] at e1 e2
      obtain ⟨d0, hd0, _, w0⟩ := DataW.trod_int Try.underlying5 e0
      obtain ⟨d1, hd1, _, w1⟩ := DataW.trod_int Try.underlying3 e1
      obtain ⟨d2, hd2, _, w2⟩ := DataW.trod_int Try.underlying3 e2
      simp at hd0 hd1 hd2
      subst hd0 hd1 hd2
      exact ⟨⟨d0, d1, d2⟩, rfl, bounds_u8 w0, bounds_i64 w1, bounds_i64 w2⟩
theorem open_acts {H : Type} {enc : TypeId × Value → H} {W : World} {a : Option Addr} {len cap : Nat} {d : DataW H} {ps : List MemPlace}
    (h : DataW.Trod enc Try.prog W 0 (fun _ => true) true 22 (.slice a len cap) d ps) : ∃ f : Nat → ActV, Acts W a len f := by
  obtain ⟨fuel, hf⟩ := h
  have hC : Try.prog.cellsOf 29 = 3 := by kernel_rfl
  obtain ⟨hl, hi⟩ := slice_elems (P := Try.prog) Try.underlying22 (by rw [hC]; omega) hf
  have hone : ∀ i, i < len → ∃ (x : ActV) (g o : Nat), a = some ⟨g, o, none⟩ ∧ IsAct W g (o + i * 3) x := fun i hlt => by
    obtain ⟨b, off, cs, n, y, rfl, hb, hlen, hcell, ht⟩ := hi i hlt
    rw [hC] at hlen hcell
    obtain ⟨x, rfl, h1, h2, h3⟩ := act_of hlen ht
    have c0 := hcell 0 (by omega)
    have c1 := hcell 1 (by omega)
    have c2 := hcell 2 (by omega)
    exact ⟨x, b, off, rfl, ⟨hb, by simpa using c0, by simpa [Nat.add_assoc] using c1, by simpa [Nat.add_assoc] using c2, h1, h2, h3⟩⟩
  refine ⟨fun i => if h : i < len then Classical.choose (hone i h) else ⟨0, 0, 0⟩, hl, fun i hlt => ?_⟩
  have hx := Classical.choose_spec (hone i hlt)
  simp only [dif_pos hlt]
  exact hx
theorem open_act {H : Type} {enc : TypeId × Value → H} {W : World} {base : Nat} {v : Value} {d : DataW H} {p : List MemPlace}
    (hok : Value.okWide Try.prog W .any base 29 v) (h : DataW.Trod enc Try.prog W 0 (fun _ => true) true 29 v d p) :
    ∃ x : ActV, v = .agg #[.int .u8 x.d, .int .i64 x.a, .int .i64 x.n] ∧ I64 x.a ∧ I64 x.n := by
  have hC : Try.prog.cellsOf 29 = 3 := by kernel_rfl
  obtain ⟨cs, rfl, hsz, _⟩ : ∃ cs, v = .agg cs ∧ cs.size = Try.prog.cellsOf 29 ∧ Row.okWide Try.prog W .any base 29 cs := by
    simpa [Value.okWide, Try.underlying29] using hok
  rw [hC] at hsz
  obtain ⟨ll⟩ := cs
  obtain ⟨fuel, hf⟩ := h
  obtain ⟨x, e, _, h2, h3⟩ := act_of (cs := ll) hsz hf
  exact ⟨x, by rw [e], h2, h3⟩

theorem first5 {l' : List (Int × Int)} {a : Int} (h : Taken 10 [] 2 3 l') (hf : FindR 10 l' 3 0 a true) : a = 5 := by
  have hF : FreeR 10 l' 5 3 := ⟨by omega, by omega, by omega, fun i h0 h1 hi => by rcases (h.mem i).1 hi with h | h; exact inR_nil i h; omega⟩
  have main : FirstR 10 l' 3 0 a → a = 5 := fun hh => by
    have h1 : ¬ 5 < a := fun hlt => hh.2.2 5 (by omega) hlt hF
    have h2 := hh.1
    by_cases h3 : a < 5
    · exact absurd ((h.mem (max a 2)).2 (.inr ⟨by omega, by omega⟩)) (h2.2.2.2 _ (by omega) (by have := h2.1; omega))
    · omega
  rcases hf with ⟨_, _, _, _, h | h⟩ | ⟨h, _⟩
  · exact main h
  · exact main h.2
  · cases h
theorem first0 {l' : List (Int × Int)} {a : Int} (h : Taken 10 [] 2 3 l') (hf : FindR 10 l' 2 0 a true) : a = 0 := by
  have hF : FreeR 10 l' 0 2 := ⟨by omega, by omega, by omega, fun i h0 h1 hi => by rcases (h.mem i).1 hi with h | h; exact inR_nil i h; omega⟩
  have main : FirstR 10 l' 2 0 a → a = 0 := fun hh => by
    have h1 : ¬ 0 < a := fun hlt => hh.2.2 0 (by omega) hlt hF
    have := hh.1.1
    omega
  rcases hf with ⟨_, _, _, _, h | h⟩ | ⟨h, _⟩
  · exact main h
  · exact main h.2
  · cases h
theorem found5 {l' : List (Int × Int)} (h : Taken 10 [] 2 3 l') : ∀ n, (n = 2 ∨ n = 3) → ¬ ∀ s, ¬ FreeR 10 l' s n := fun n hn hno => by
  refine hno 5 ⟨by omega, by omega, by omega, fun i h0 h1 hi => ?_⟩
  rcases (h.mem i).1 hi with h | h
  · exact inR_nil i h
  · omega
set_option maxHeartbeats 1000000 in
theorem awake_any (w : World) : Calls Try.prog 9 #[] w fun e w' => e = .returned (.bool true) ∧ Below w.heap.size w w' := by
  obtain ⟨r, l', hT, HT⟩ := take_any (WF.nil 10) (by omega) 2 3 ⟨by omega, by omega⟩
  obtain ⟨rfl, hK⟩ := hT.free ⟨by omega, by omega, by omega, fun i _ _ => inR_nil i⟩
  have HT := Lib.hid HT
  have HK := Lib.hid hK
  clear hT hK
  go_enter Try.func9, Try.ntmps9
  go_wp2_with fail
  refine (new_ok 10 w (by omega) (by omega)).mono ?_
  rintro e w1 ⟨b, rfl, h1, b1⟩
  have H1 := Lib.hid h1
  have B1 := Lib.hid b1
  clear h1 b1
  go_wp2_with fail
  refine (HT.out _ _ _ b H1.out).mono ?_
  rintro e w2 ⟨rfl, h2, k2⟩
  have H2 := Lib.hid h2
  have B2 := Lib.hid (B1.out.trans k2.low)
  clear h2 k2
  go_wp2_with fail
  refine (Find_ok H2.out HK.out.wf (by omega) ⟨by omega, by omega⟩).mono ?_
  rintro e w3 ⟨a, ok, rfl, hA, b3⟩
  cases ok with
  | false => exact absurd (hA.none (by omega) (by omega) (by omega)) (found5 HK.out 3 (.inr rfl))
  | true =>
  obtain rfl := first5 HK.out hA
  have H3 := Lib.hid (H2.out.below b3)
  have B3 := Lib.hid (next B2.out b3)
  clear hA b3
  go_wp2_with fail
  refine (Find_ok H3.out HK.out.wf (by omega) ⟨by omega, by omega⟩).mono ?_
  rintro e w4 ⟨a, ok, rfl, hA, b4⟩
  cases ok with
  | false => exact absurd (hA.none (by omega) (by omega) (by omega)) (found5 HK.out 2 (.inl rfl))
  | true =>
  obtain rfl := first0 HK.out hA
  have B4 := Lib.hid (next B3.out b4)
  clear hA b4
  go_wp2
  go_ret
  exact ⟨rfl, B4.out⟩
end Go.Proofs.Ytoiiaacjpobaeaa
