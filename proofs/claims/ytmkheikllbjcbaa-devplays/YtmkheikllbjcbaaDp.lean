/-
  The laws' own helpers: Full, few, awake; acts that came in.
-/
import Derived.Test.YtmkheikllbjcbaaDo
namespace Go.Proofs.Ytmkheikllbjcbaa
open Go.RowKit Go.Maps

theorem info_u8 : ∃ i, Try.prog.info? 5 = some i ∧ i.zero = some (.int .u8 0) ∧ i.size = 1 ∧ i.bytes = 1 := info_parts (by kernel_rfl)
def FullRel (w : World) (c : Int) (v u : Value) (wr : World) : Prop :=
  ∃ t : Nat, t ≤ 64 ∧ u = .int .i64 (t : Int) ∧ wr.ownsRow w.heap.size 5 1 v t (List.replicate t (.int .u8 c)) ∧ Below w.heap.size w wr
theorem conv_own (w : World) (B : Nat) (v : Value) (c : UInt8) (h : w.ownsRow B 5 1 v 64 (List.replicate 64 (.int .u8 (c.toNat : Int)))) : (convert 40 9 v).run Try.prog w = .ok (.string (strOf (fullS c))) w := by
  have hcells := fun g hg => World.ownsRow.cells (g := g) h hg
  rcases h.2 with ⟨_, h0⟩ | ⟨g, cap, cur, rfl, _⟩
  · omega
  · have := run_convert_bytes_back (P := Try.prog) w 40 9 5 ⟨g, 0, none⟩ cap (fullS c) Try.underlying40 Try.underlying5 Try.underlying9 (fun j hj => by
      rw [fullS_len] at hj
      have h1 := hcells g rfl j (.int .u8 (c.toNat : Int)) (by rw [List.getElem?_replicate, if_pos hj])
      rw [h1]
      simp only [fullS, List.getElem_replicate])
    rw [fullS_len] at this
    exact this
set_option maxHeartbeats 1000000 in
theorem full_any (c : UInt8) (w : World) :
    Calls Try.prog 14 #[.int .u8 (c.toNat : Int)] w fun e w' => e = .returned (.string (strOf (fullS c))) ∧ Below w.heap.size w w' := by
  obtain ⟨i0, hi, hz0, hz1, hz2⟩ := info_u8
  go_enter Try.func14, Try.ntmps14
  go_wp2_with fail
  go_loopw [3, 4] (fun v u wr => FullRel w (c.toNat : Int) v u wr) (fun _ u _ => 64 - (intOf u).toNat)
  case atStart => exact ⟨0, Nat.zero_le _, rfl, World.ownsRow_nil _ _ _ _, Below.refl _ _⟩
  case round =>
    obtain ⟨t, ht, rfl, hown, hb⟩ := hrel
    by_cases hlt : t < 64
    · have HO := Lib.hid hown
      have hsz := hb.size
      clear hown
      go_wp2_with (first | (at_builtin; refine wpList_append_own_at _ rfl _ _ 40 rfl w.heap.size 5 i0 (.int .u8 0) 1 1 Try.underlying40 hi hz0 hz1 hz2 rfl (by decide) _ _ _ rfl (World.ownsRow.alloc HO.out _) ⟨wr.heap.size, 0, none⟩ 1 1 [.int .u8 (c.toNat : Int)] rfl rfl (cell_one_new _ _ _) (ints_oneCell .u8 [(c.toNat : Int)]) (by unfold maxLen; omega) (by omega) (by simp; omega) ?_; intro v3 w3 hown3 hg3 hnil3 hloc3))
      have hg3' : (wr.alloc (.cells #[.int .u8 (c.toNat : Int)] 5)).grownBy w3 (Value.ownBlock u3) := hg3
      clear hg3 hnil3 hloc3
      go_roundw
      case rel =>
        refine ⟨t + 1, by omega, by go_num, ?_, (hb.alloc hsz _).grown hg3' (by simp; omega) fun j hj => (HO.out.lt j hj).1⟩
        rw [List.replicate_succ']
        exact hown3
      case measure => simp [intOf]; omega
    · obtain rfl : t = 64 := by omega
      have hcv := conv_own wr _ _ c hown
      clear hown
      go_wp2
      go_ret
      exact ⟨rfl, hb⟩

/-- An act. -/
structure ActV where
  do_ : UInt8
  at_ : Int
  n : Int
  fill : UInt8
  ka : Option Addr
  kn : Nat
  kc : Nat
  keep : List Int
/-- An act's five cells, from o on of block g; all lies below B. -/
structure IsAct (B : Nat) (w : World) (g o : Nat) (x : ActV) : Prop where
  lt : g < B
  c0 : w.cell? ⟨g, o, none⟩ = some (.int .u8 (x.do_.toNat : Int))
  c1 : w.cell? ⟨g, o + 1, none⟩ = some (.int .i64 x.at_)
  c2 : w.cell? ⟨g, o + 2, none⟩ = some (.int .i64 x.n)
  c3 : w.cell? ⟨g, o + 3, none⟩ = some (.int .u8 (x.fill.toNat : Int))
  c4 : w.cell? ⟨g, o + 4, none⟩ = some (.slice x.ka x.kn x.kc)
  at0 : -9223372036854775808 ≤ x.at_
  at1 : x.at_ ≤ 9223372036854775807
  n0 : -9223372036854775808 ≤ x.n
  n1 : x.n ≤ 9223372036854775807
  kl : x.kn ≤ maxLen
  keep : Ints (fun k => B ≤ k) w (.slice x.ka x.kn x.kc) x.keep
/-- A slice of acts that came in. -/
def Acts (B : Nat) (w : World) (a : Option Addr) (len : Nat) (l : List ActV) : Prop :=
  len ≤ maxLen ∧ l.length = len ∧ ∀ i (h : i < l.length), ∃ g o, a = some ⟨g, o, none⟩ ∧ IsAct B w g (o + i * 5) l[i]
theorem IsAct.below {B : Nat} {w w' : World} {g o : Nat} {x : ActV} (h : IsAct B w g o x) (hb : Below B w w') : IsAct B w' g o x := by
  have e : ∀ j, w'.cell? ⟨g, j, none⟩ = w.cell? ⟨g, j, none⟩ := fun j => hb.cell (p := ⟨g, j, none⟩) h.lt
  refine ⟨h.lt, by rw [e]; exact h.c0, by rw [e]; exact h.c1, by rw [e]; exact h.c2, by rw [e]; exact h.c3, by rw [e]; exact h.c4, h.at0, h.at1, h.n0, h.n1, h.kl, ?_⟩
  exact h.keep.turn ⟨hb.os, hb.tape, hb.output, hb.size, fun k _ hn => hb.block k (by omega)⟩ fun _ h => .inl h
theorem Acts.below {B : Nat} {w w' : World} {a : Option Addr} {len : Nat} {l : List ActV} (h : Acts B w a len l) (hb : Below B w w') : Acts B w' a len l := by
  obtain ⟨h1, h2, h3⟩ := h
  refine ⟨h1, h2, fun i hi => ?_⟩
  obtain ⟨g, o, ha, hx⟩ := h3 i hi
  exact ⟨g, o, ha, hx.below hb⟩
theorem ints_row {W : World} {a : Option Addr} {len cap : Nat} {zs : List Int} (h : IsRow .i64 W a len cap zs) : Ints (fun k => W.heap.size ≤ k) W (.slice a len cap) (zs.take len) ∧ (zs.take len).length = len := by
  have hl : (zs.take len).length = len := by
    rcases h with ⟨_, rfl, _, rfl⟩ | ⟨x, _, h1, _, h3, _⟩
    · rfl
    · rw [List.length_take]; omega
  refine ⟨⟨a, cap, by rw [hl], ?_, fun j hj => ?_⟩, hl⟩
  · rw [hl]
    rcases h with ⟨_, rfl, rfl, rfl⟩ | ⟨x, _, h1, _⟩
    · exact Nat.le_refl _
    · exact h1
  · rw [hl] at hj
    obtain ⟨b, off, rfl, hb, hc, _⟩ := h.at_ j hj
    refine ⟨b, off, rfl, by omega, hb, ?_⟩
    rw [hc]
    simp only [List.getD_eq_getElem?_getD, List.getElem?_take_of_lt hj]
theorem u8_of {n : Int} (h : (Lit.int .u8 n).wf = true) : ∃ c : UInt8, n = (c.toNat : Int) := by
  obtain ⟨h0, h1⟩ := bounds_u8 h
  refine ⟨UInt8.ofNat n.toNat, ?_⟩
  rw [UInt8.toNat_ofNat_of_lt' (by simp [UInt8.size]; omega)]
  omega
theorem acts_of {H : Type} {enc : TypeId × Value → H} {W : World} {a : Option Addr} {len cap : Nat} {d : DataW H} {p : List MemPlace}
    (h : DataW.Trod enc Try.prog W 0 (fun _ => true) true 22 (.slice a len cap) d p) : ∃ l, Acts W.heap.size W a len l := by
  obtain ⟨fuel, hf⟩ := h
  have hC : Try.prog.cellsOf 32 = 5 := by kernel_rfl
  obtain ⟨hl, hi⟩ := slice_elems Try.underlying22 (by rw [hC]; omega) hf
  have hone : ∀ i, i < len → ∃ x : ActV, ∃ g o, a = some ⟨g, o, none⟩ ∧ IsAct W.heap.size W g (o + i * 5) x := fun i hlt => by
    obtain ⟨b, off, cs, n, y, rfl, hb, hlen, hcell, ht⟩ := hi i hlt
    rw [hC] at hlen hcell
    obtain ⟨xs, n', _, _, _, hxl, hfld⟩ := DataW.trod_struct Try.underlying32 ht
    match cs, hlen with
    | [v0, v1, v2, v3, v4], _ =>
      have hx : xs.length = 5 := hxl
      match xs, hx with
      | [y0, y1, y2, y3, y4], _ =>
        have k5 : Try.prog.cellsOf 5 = 1 := by kernel_rfl
        have k3 : Try.prog.cellsOf 3 = 1 := by kernel_rfl
        have k23 : Try.prog.cellsOf 23 = 1 := by kernel_rfl
        have e0 : DataW.trod enc Try.prog W 0 (fun _ => true) true n' 5 (([v0, v1, v2, v3, v4].drop 0).take (Try.prog.cellsOf 5)) = some y0 := hfld 0 _ rfl
        have e1 : DataW.trod enc Try.prog W 0 (fun _ => true) true n' 3 (([v0, v1, v2, v3, v4].drop 1).take (Try.prog.cellsOf 3)) = some y1 := hfld 1 _ rfl
        have e2 : DataW.trod enc Try.prog W 0 (fun _ => true) true n' 3 (([v0, v1, v2, v3, v4].drop 2).take (Try.prog.cellsOf 3)) = some y2 := hfld 2 _ rfl
        have e3 : DataW.trod enc Try.prog W 0 (fun _ => true) true n' 5 (([v0, v1, v2, v3, v4].drop 3).take (Try.prog.cellsOf 5)) = some y3 := hfld 3 _ rfl
        have e4 : DataW.trod enc Try.prog W 0 (fun _ => true) true n' 23 (([v0, v1, v2, v3, v4].drop 4).take (Try.prog.cellsOf 23)) = some y4 := hfld 4 _ rfl
        rw [k5] at e0 e3
        rw [k3] at e1 e2
        rw [k23] at e4
        obtain ⟨d0, hd0, _, w0⟩ := DataW.trod_int Try.underlying5 e0
        obtain ⟨d1, hd1, _, w1⟩ := DataW.trod_int Try.underlying3 e1
        obtain ⟨d2, hd2, _, w2⟩ := DataW.trod_int Try.underlying3 e2
        obtain ⟨d3, hd3, _, w3⟩ := DataW.trod_int Try.underlying5 e3
        simp at hd0 hd1 hd2 hd3
        subst hd0 hd1 hd2 hd3
        obtain ⟨c0, rfl⟩ := u8_of w0
        obtain ⟨c3, rfl⟩ := u8_of w3
        obtain ⟨a0, a1⟩ := bounds_i64 w1
        obtain ⟨b0, b1⟩ := bounds_i64 w2
        have h0 := hcell 0 (by omega)
        have h1 := hcell 1 (by omega)
        have h2 := hcell 2 (by omega)
        have h3 := hcell 3 (by omega)
        have h4 := hcell 4 (by omega)
        have e4' : DataW.trod enc Try.prog W 0 (fun _ => true) true n' 23 [v4] = some y4 := e4
        obtain ⟨ka, kn, kc, zs, hv4, hrow⟩ : ∃ ka kn kc zs, v4 = .slice ka kn kc ∧ IsRow .i64 W ka kn kc zs := by
          rcases Go.ChangeShapes.open_ints Try.underlying23 Try.underlying3 (by kernel_rfl) e4' with ⟨hcs, _⟩ | ⟨x, l, c, zs, hcs, _, hl, hm, hz, _, hcell, hwz⟩
          · simp at hcs
            exact ⟨_, _, _, [], hcs, .inl ⟨rfl, rfl, rfl, rfl⟩⟩
          · simp at hcs
            exact ⟨_, _, _, zs, hcs, .inr ⟨_, rfl, hl, hm, by simpa using hz, hcell, hwz⟩⟩
        subst hv4
        obtain ⟨hk, hkl⟩ := ints_row hrow
        refine ⟨⟨c0, d1, d2, c3, ka, kn, kc, zs.take kn⟩, b, off, rfl, ⟨hb, ?_, ?_, ?_, ?_, ?_, a0, a1, b0, b1, hrow.len_le, hk⟩⟩
        · simpa using h0
        · simpa [Nat.add_assoc] using h1
        · simpa [Nat.add_assoc] using h2
        · simpa [Nat.add_assoc] using h3
        · simpa [Nat.add_assoc] using h4
  have hsuf : ∀ n, n ≤ len → ∃ l : List ActV, l.length = n ∧ ∀ i (h : i < l.length), ∃ g o, a = some ⟨g, o, none⟩ ∧ IsAct W.heap.size W g (o + i * 5) l[i] := by
    intro n
    induction n with
    | zero => exact fun _ => ⟨[], rfl, fun i h => absurd h (Nat.not_lt_zero _)⟩
    | succ n ih =>
      intro hn
      obtain ⟨l, h1, h2⟩ := ih (by omega)
      obtain ⟨x, hx⟩ := hone n (by omega)
      refine ⟨l ++ [x], by simp [h1], fun i hi => ?_⟩
      by_cases e : i < l.length
      · rw [List.getElem_append_left e]; exact h2 i e
      · have : i = n := by simp at hi; omega
        subst this
        rw [List.getElem_append_right (by omega)]
        simp [h1]
        exact hx
  obtain ⟨l, h1, h2⟩ := hsuf len (Nat.le_refl _)
  exact ⟨l, hl, h1, h2⟩
end Go.Proofs.Ytmkheikllbjcbaa
