/-
  Small general lemmas: a quiet call met behind draws; a slice of integers that came in ('IsRow'); worlds that grow one behind the other.
  A measure: its groups as a list of pairs (kind, devices), and its sectors; how it lies in memory; a measure that came in, opened.
  geom.Right: what it answers.
  The numbers of a measure: devices ahead of a group, what a group gives out, what a block takes.
-/
import Derived.Test.YtiffkbmcikiioaaGreatChecked
import Derived.WalkKit
import Derived.ProofKit
import Derived.WalkSpells
import Derived.OwnWalk
import Derived.WalkLawsBesides
import Derived.OpenShut
import Derived.Deep.QuietTactic
import Derived.BigQuiet
import Derived.Lib.Hide
import Derived.Deep.Slices
import Derived.ChangeSame
import Derived.Deep.RegionHeld3

/- Small general lemmas: a quiet call met behind draws; a slice of integers that came in ('IsRow'); worlds that grow one behind the other. -/
namespace Go.Proofs.YtiffkbmcikiioaaGreat
set_option maxRecDepth 100000
open Go.RowKit

theorem quiet_same {P : Program} {f : FuncId} {args : Array Value} {w : World} {n : Nat} {v : Value}
    (h : Calls P f args (w.drewN n) fun e w' => e = .returned v ∧ w.drewN n = w') : Calls P f args (w.drewN n) fun e w'' => e = .returned v ∧ ∃ m, w'' = w.drewN m :=
  h.mono fun _ _ ⟨he, hm⟩ => ⟨he, n, hm.symm⟩

/-- A slice of integers that came in: nil, or a row of cap cells, the numbers zs. -/
def IsRow (k : IntKind) (w : World) (a : Option Addr) (len cap : Nat) (zs : List Int) : Prop :=
  (a = none ∧ len = 0 ∧ cap = 0 ∧ zs = []) ∨
  ∃ x, a = some x ∧ len ≤ cap ∧ cap ≤ maxLen ∧ zs.length = cap ∧ (∀ i, i < zs.length → w.cell? (x.add i) = some (.int k (zs.getD i 0))) ∧ ∀ n ∈ zs, (Lit.int k n).wf = true

theorem IsRow.len_le {k : IntKind} {w : World} {a : Option Addr} {len cap : Nat} {zs : List Int} (h : IsRow k w a len cap zs) : len ≤ maxLen := by
  rcases h with ⟨_, rfl, _, _⟩ | ⟨x, _, h1, h2, _⟩
  · exact Nat.zero_le _
  · exact Nat.le_trans h1 h2
/-- An element: its cell lies in an old block. -/
theorem IsRow.at_ {k : IntKind} {w : World} {a : Option Addr} {len cap : Nat} {zs : List Int} (h : IsRow k w a len cap zs) (i : Nat) (hi : i < len) :
    ∃ b off, a = some ⟨b, off, none⟩ ∧ b < w.heap.size ∧ w.cell? ⟨b, off + i, none⟩ = some (.int k (zs.getD i 0)) ∧ (Lit.int k (zs.getD i 0)).wf = true := by
  rcases h with ⟨_, rfl, _, _⟩ | ⟨x, rfl, h1, h2, h3, h4, h5⟩
  · omega
  · obtain ⟨b, off, rfl, hc⟩ := ints_at h4 (show 0 < zs.length by omega)
    have hci := hc i (by omega)
    refine ⟨b, off, rfl, ?_, hci, h5 _ ?_⟩
    · exact World.block_lt_of_cell? w ⟨b, off + i, none⟩ hci
    · rw [List.getD_eq_getElem?_getD, List.getElem?_eq_getElem (by omega)]; exact List.getElem_mem _

section
variable {H : Type} {enc : TypeId × Value → H} {P : Program} {W : World}
/-- A slice that came in, whatever its elements: for each index the element's cells, in an old block, and that they can be read by the element's type. -/
theorem slice_elems {t e : TypeId} {fuel : Nat} {a : Option Addr} {len cap : Nat} {x : DataW H × List MemPlace} (ht : P.underlying t = some (.slice e)) (hC : 0 < P.cellsOf e)
    (h : DataW.trod enc P W 0 (fun _ => true) true fuel t [.slice a len cap] = some x) :
    len ≤ maxLen ∧ ∀ i, i < len → ∃ (b off : Nat) (cs : List Value) (n : Nat) (y : DataW H × List MemPlace), a = some ⟨b, off, none⟩ ∧ b < W.heap.size ∧ cs.length = P.cellsOf e ∧
      (∀ j, j < P.cellsOf e → W.cell? ⟨b, off + (i * P.cellsOf e + j), none⟩ = cs[j]?) ∧ DataW.trod enc P W 0 (fun _ => true) true n e cs = some y := by
  rcases Go.Deep.open_slice ht h with ⟨h0, _⟩ | ⟨x, len', cap', m, n, D, Pl, h0, _, hl, hm, hmm, _, hi⟩
  · simp only [List.cons.injEq, and_true, Value.slice.injEq] at h0
    obtain ⟨_, rfl, _⟩ := h0
    exact ⟨Nat.zero_le _, fun i hi => by omega⟩
  · simp only [List.cons.injEq, and_true, Value.slice.injEq] at h0
    obtain ⟨rfl, rfl, rfl⟩ := h0
    refine ⟨Nat.le_trans hl hm, fun i hilt => ?_⟩
    have him : i < m := by rw [hmm]; simp; omega
    obtain ⟨cs, h1, h2⟩ := hi i him
    obtain ⟨_, hlen, hcell⟩ := World.cells?_some h1
    obtain ⟨b, off, spot⟩ := x
    have h00 := hcell 0 hC
    have hsp : spot = none := by
      obtain ⟨cs0, h10, _⟩ := hi 0 (by omega)
      obtain ⟨_, hl0, hc0⟩ := World.cells?_some h10
      have hz := hc0 0 hC
      rw [Go.Deep.add_add] at hz
      have hv : cs0[0]? = some (cs0[0]'(by omega)) := List.getElem?_eq_getElem (by omega)
      rw [hv] at hz
      simpa [Addr.add] using World.cell?_spot hz
    subst hsp
    have hcells : ∀ j, j < P.cellsOf e → W.cell? ⟨b, off + (i * P.cellsOf e + j), none⟩ = cs[j]? := fun j hj => by
      have := hcell j hj
      rwa [Go.Deep.add_add, Go.WideShapes.add_plain] at this
    refine ⟨b, off, cs, n, _, rfl, ?_, hlen, hcells, h2⟩
    have hz := hcells 0 hC
    have hv : cs[0]? = some (cs[0]'(by omega)) := List.getElem?_eq_getElem (by omega)
    rw [hv] at hz
    exact World.block_lt_of_cell? W _ hz
end
end Go.Proofs.YtiffkbmcikiioaaGreat

/- A measure: its groups as a list of pairs (kind, devices), and its sectors; how it lies in memory; a measure that came in, opened. -/
namespace Go.Proofs.YtiffkbmcikiioaaGreat
set_option maxRecDepth 100000
open Go.RowKit

theorem bounds_i64 {n : Int} (h : (Lit.int .i64 n).wf = true) : -9223372036854775808 ≤ n ∧ n ≤ 9223372036854775807 := by
  simpa [Lit.wf, IntKind.min, IntKind.max, IntKind.signed, IntKind.bits] using h

/-- A group's two cells, from o on of block g, an old one. -/
structure IsG (w : World) (g o : Nat) (x : Int × Int) : Prop where
  lt : g < w.heap.size
  c0 : w.cell? ⟨g, o, none⟩ = some (.int .i64 x.1)
  c1 : w.cell? ⟨g, o + 1, none⟩ = some (.int .i64 x.2)
  k0 : -9223372036854775808 ≤ x.1
  k1 : x.1 ≤ 9223372036854775807
  w0 : -9223372036854775808 ≤ x.2
  w1 : x.2 ≤ 9223372036854775807
/-- A slice of groups. -/
def Grps (w : World) (a : Option Addr) (n : Nat) (l : List (Int × Int)) : Prop :=
  n ≤ maxLen ∧ l.length = n ∧ ∀ i (h : i < l.length), ∃ g o, a = some ⟨g, o, none⟩ ∧ IsG w g (o + i * 2) l[i]
/-- A measure. -/
def Meas (w : World) (v : Value) (l : List (Int × Int)) (s : Int) : Prop :=
  ∃ a n c, v = .agg #[.slice a n c, .int .i64 s] ∧ Grps w a n l ∧ -9223372036854775808 ≤ s ∧ s ≤ 9223372036854775807

theorem IsG.below {w w' : World} {g o : Nat} {x : Int × Int} (h : IsG w g o x) (hb : Below w.heap.size w w') : IsG w' g o x := by
  have e : ∀ j, w'.cell? ⟨g, j, none⟩ = w.cell? ⟨g, j, none⟩ := fun j => hb.cell (p := ⟨g, j, none⟩) h.lt
  exact ⟨Nat.lt_of_lt_of_le h.lt hb.size, by rw [e]; exact h.c0, by rw [e]; exact h.c1, h.k0, h.k1, h.w0, h.w1⟩
theorem Grps.below {w w' : World} {a : Option Addr} {n : Nat} {l : List (Int × Int)} (h : Grps w a n l) (hb : Below w.heap.size w w') : Grps w' a n l := by
  obtain ⟨h1, h2, h3⟩ := h
  refine ⟨h1, h2, fun i hi => ?_⟩
  obtain ⟨g, o, ha, hx⟩ := h3 i hi
  exact ⟨g, o, ha, hx.below hb⟩
theorem Meas.below {w w' : World} {v : Value} {l : List (Int × Int)} {s : Int} (h : Meas w v l s) (hb : Below w.heap.size w w') : Meas w' v l s := by
  obtain ⟨a, n, c, hv, hg, hs⟩ := h
  exact ⟨a, n, c, hv, hg.below hb, hs⟩
/-- Worlds that grow one behind the other. -/
theorem next {w w1 w2 : World} (h : Below w.heap.size w w1) (k : Below w1.heap.size w1 w2) : Below w.heap.size w w2 := h.trans (k.mono h.size)
theorem boxed (w : World) (o : Obj) : Below w.heap.size w (w.alloc o) := (Below.refl _ w).alloc (Nat.le_refl _) o

theorem open_geom {H : Type} {enc : TypeId × Value → H} {W : World} {base : Nat} {v : Value} {d : DataW H} {p : List MemPlace}
    (hok : Value.okWide Tryz.prog W .any base 24 v) (h : DataW.Trod enc Tryz.prog W 0 (fun _ => true) true 24 v d p) :
    ∃ l s, Meas W v l s := by
  have hc2 : Tryz.prog.cellsOf 24 = 2 := by kernel_rfl
  obtain ⟨cs, rfl, hsz, _⟩ : ∃ cs, v = .agg cs ∧ cs.size = Tryz.prog.cellsOf 24 ∧ Row.okWide Tryz.prog W .any base 24 cs := by
    simpa [Value.okWide, Tryz.underlying24] using hok
  rw [hc2] at hsz
  obtain ⟨ll⟩ := cs
  match ll, hsz with
  | [c0, c1], _ =>
  obtain ⟨fuel, hf⟩ := h
  obtain ⟨xs, n', _, _, _, hxl, hfld⟩ := DataW.trod_struct Tryz.underlying24 hf
  have hx : xs.length = 2 := hxl
  match xs, hx with
  | [y0, y1], _ =>
  have k3 : Tryz.prog.cellsOf 3 = 1 := by kernel_rfl
  have k22 : Tryz.prog.cellsOf 22 = 1 := by kernel_rfl
  have e0 : DataW.trod enc Tryz.prog W 0 (fun _ => true) true n' 22 (([c0, c1].drop 0).take (Tryz.prog.cellsOf 22)) = some y0 := hfld 0 _ rfl
  have e1 : DataW.trod enc Tryz.prog W 0 (fun _ => true) true n' 3 (([c0, c1].drop 1).take (Tryz.prog.cellsOf 3)) = some y1 := hfld 1 _ rfl
  rw [k22] at e0
  rw [k3] at e1
  obtain ⟨s, hs, _, ws⟩ := DataW.trod_int Tryz.underlying3 e1
  simp at hs
  subst hs
  obtain ⟨s0, s1⟩ := bounds_i64 ws
  have e0' : DataW.trod enc Tryz.prog W 0 (fun _ => true) true n' 22 [c0] = some y0 := e0
  obtain ⟨a, len, cap, rfl⟩ : ∃ a len cap, c0 = .slice a len cap := by
    rcases Go.Deep.open_slice Tryz.underlying22 e0' with ⟨h0, _⟩ | ⟨x, len', cap', m, n, D, Pl, h0, _⟩
    · simp only [List.cons.injEq, and_true] at h0
      exact ⟨_, _, _, h0⟩
    · simp only [List.cons.injEq, and_true] at h0
      exact ⟨_, _, _, h0⟩
  have hC : Tryz.prog.cellsOf 53 = 2 := by kernel_rfl
  obtain ⟨hl, hi⟩ := slice_elems Tryz.underlying22 (by rw [hC]; omega) e0'
  have hone : ∀ i, i < len → ∃ x : Int × Int, ∃ g o, a = some ⟨g, o, none⟩ ∧ IsG W g (o + i * 2) x := fun i hlt => by
    obtain ⟨b, off, cs, n, y, rfl, hb, hlen, hcell, ht⟩ := hi i hlt
    rw [hC] at hlen hcell
    obtain ⟨xs, n', _, _, _, hxl, hfld⟩ := DataW.trod_struct Tryz.underlying53 ht
    match cs, hlen with
    | [v0, v1], _ =>
      have hx : xs.length = 2 := hxl
      match xs, hx with
      | [y0, y1], _ =>
        have e0 : DataW.trod enc Tryz.prog W 0 (fun _ => true) true n' 3 (([v0, v1].drop 0).take (Tryz.prog.cellsOf 3)) = some y0 := hfld 0 _ rfl
        have e1 : DataW.trod enc Tryz.prog W 0 (fun _ => true) true n' 3 (([v0, v1].drop 1).take (Tryz.prog.cellsOf 3)) = some y1 := hfld 1 _ rfl
        rw [k3] at e0 e1
        obtain ⟨d0, hd0, _, w0⟩ := DataW.trod_int Tryz.underlying3 e0
        obtain ⟨d1, hd1, _, w1⟩ := DataW.trod_int Tryz.underlying3 e1
        simp at hd0 hd1
        subst hd0 hd1
        obtain ⟨a0, a1⟩ := bounds_i64 w0
        obtain ⟨b0, b1⟩ := bounds_i64 w1
        have h0 := hcell 0 (by omega)
        have h1 := hcell 1 (by omega)
        refine ⟨(d0, d1), b, off, rfl, ⟨hb, ?_, ?_, a0, a1, b0, b1⟩⟩
        · simpa using h0
        · simpa [Nat.add_assoc] using h1
  have hsuf : ∀ n, n ≤ len → ∃ l : List (Int × Int), l.length = n ∧ ∀ i (h : i < l.length), ∃ g o, a = some ⟨g, o, none⟩ ∧ IsG W g (o + i * 2) l[i] := by
    intro n
    induction n with
    | zero => exact fun _ => ⟨[], rfl, fun i h => absurd h (Nat.not_lt_zero _)⟩
    | succ n ih =>
      intro hn
      obtain ⟨l, h1, h2⟩ := ih (by omega)
      obtain ⟨x, hx⟩ := hone n (by omega)
      refine ⟨l ++ [x], by simp [h1], fun i hi => ?_⟩
      by_cases e : i < l.length
      · rw [List.getElem_append_left e]; exact h2 i e
      · have : i = n := by simp at hi; omega
        subst this
        rw [List.getElem_append_right (by omega)]
        simp [h1]
        exact hx
  obtain ⟨l, h1, h2⟩ := hsuf len (Nat.le_refl _)
  exact ⟨l, s, a, len, cap, rfl, ⟨hl, h1, h2⟩, s0, s1⟩
end Go.Proofs.YtiffkbmcikiioaaGreat

/- geom.Right: what it answers. -/
namespace Go.Proofs.YtiffkbmcikiioaaGreat
set_option maxRecDepth 100000
open Go.RowKit

/-- Is a group right? -/
def okG (p : Int × Int) : Bool := if p.1 = 0 then decide (1 ≤ p.2) && decide (p.2 ≤ 8) else if p.1 = 1 then decide (3 ≤ p.2) && decide (p.2 ≤ 8) else false
/-- Is a measure right? -/
def rightL (l : List (Int × Int)) (s : Int) : Bool := decide (0 < l.length) && decide (l.length ≤ 4) && decide (24 ≤ s) && decide (s ≤ 4096) && l.all okG

theorem pred_any (k d : Int) (w : World) (hk : -9223372036854775808 ≤ k ∧ k ≤ 9223372036854775807) (hd : -9223372036854775808 ≤ d ∧ d ≤ 9223372036854775807) (b : Bool) (hb : okG (k, d) = b) :
    Calls Tryz.prog 84 #[.agg #[.int .i64 k, .int .i64 d]] w fun e w' => e = .returned (.bool (!b)) ∧ Below w.heap.size w w' := by
  obtain ⟨k0, k1⟩ := hk
  obtain ⟨d0, d1⟩ := hd
  by_cases e0 : k = 0
  · subst e0
    by_cases h1 : d < 1
    · obtain rfl : false = b := by rw [← hb]; simp [okG]; omega
      go_enter Tryz.func84, Tryz.ntmps84
      go_wp2
      go_ret
      exact ⟨rfl, boxed _ _⟩
    · by_cases h8 : 8 < d
      · obtain rfl : false = b := by rw [← hb]; simp [okG]; omega
        go_enter Tryz.func84, Tryz.ntmps84
        go_wp2
        go_ret
        exact ⟨rfl, boxed _ _⟩
      · obtain rfl : true = b := by rw [← hb]; simp [okG]; omega
        go_enter Tryz.func84, Tryz.ntmps84
        go_wp2
        go_ret
        exact ⟨rfl, boxed _ _⟩
  · have e0' : (k == 0) = false := by simp [e0]
    by_cases e1 : k = 1
    · subst e1
      by_cases h1 : d < 3
      · obtain rfl : false = b := by rw [← hb]; simp [okG]; omega
        go_enter Tryz.func84, Tryz.ntmps84
        go_wp2
        go_ret
        exact ⟨rfl, boxed _ _⟩
      · by_cases h8 : 8 < d
        · obtain rfl : false = b := by rw [← hb]; simp [okG]; omega
          go_enter Tryz.func84, Tryz.ntmps84
          go_wp2
          go_ret
          exact ⟨rfl, boxed _ _⟩
        · obtain rfl : true = b := by rw [← hb]; simp [okG]; omega
          go_enter Tryz.func84, Tryz.ntmps84
          go_wp2
          go_ret
          exact ⟨rfl, boxed _ _⟩
    · have e1' : (k == 1) = false := by simp [e1]
      obtain rfl : false = b := by rw [← hb]; simp [okG, e0, e1]
      go_enter Tryz.func84, Tryz.ntmps84
      go_wp2
      go_ret
      exact ⟨rfl, boxed _ _⟩

/-- All groups that were looked at are right. -/
def okTo (l : List (Int × Int)) (k : Nat) : Prop := ∀ j (h : j < l.length), j < k → okG l[j] = true
theorem okTo_all {l : List (Int × Int)} (h : okTo l l.length) : l.all okG = true := by
  rw [List.all_eq_true]
  intro x hx
  obtain ⟨j, hj, rfl⟩ := List.getElem_of_mem hx
  exact h j hj hj
theorem okTo_not {l : List (Int × Int)} {k : Nat} (hk : k < l.length) (h : okG l[k] = false) : l.all okG = false := by
  cases e : l.all okG with
  | false => rfl
  | true =>
    rw [List.all_eq_true] at e
    rw [e _ (List.getElem_mem hk)] at h
    cases h
set_option maxHeartbeats 1000000 in
theorem index_any (l : List (Int × Int)) (a : Option Addr) (n c : Nat) (w : World) (h : Grps w a n l) :
    Calls Tryz.prog 121 #[.slice a n c, .func (.func 84) #[] #[]] w fun e w' =>
      ∃ k : Int, e = .returned (.int .i64 k) ∧ (l.all okG = true → k = -1) ∧ (l.all okG = false → 0 ≤ k ∧ k ≤ 9223372036854775807) ∧ Below w.heap.size w w' := by
  obtain ⟨hm, hn, hc⟩ := h
  unfold maxLen at hm
  have HC := Lib.hid hc
  have HN := Lib.hid hn
  clear hc hn
  go_enter Tryz.func121, Tryz.ntmps121
  go_wp2_with fail
  go_loopw [8] (fun i wr => ∃ k : Nat, k ≤ n ∧ i = .int .i64 k ∧ Hid (okTo l k) ∧ Below w.heap.size w wr) (fun i _ => n - (intOf i).toNat)
  case atStart => exact ⟨0, Nat.zero_le _, rfl, Lib.hid fun j _ hj => absurd hj (Nat.not_lt_zero _), Below.refl _ _⟩
  case round =>
    obtain ⟨k, hk, rfl, H, hb⟩ := hrel
    by_cases hlt : k < n
    · have hlt' : k < l.length := by rw [HN.out]; exact hlt
      obtain ⟨g, o, rfl, hg⟩ := HC.out k hlt'
      obtain ⟨_, c0, c1, p0, p1, q0, q1⟩ := hg.below hb
      generalize hx : l[k] = x at c0 c1 p0 p1 q0 q1
      have HX : Hid (∃ h : k < l.length, l[k] = x) := Lib.hid ⟨hlt', hx⟩
      clear hx hg hlt'
      obtain ⟨x1, x2⟩ := x
      dsimp only at c0 c1 p0 p1 q0 q1
      cases hz : okG (x1, x2) with
      | true =>
        have HZ := Lib.hid hz
        clear hz
        go_wp2_with fail
        refine (pred_any x1 x2 _ ⟨p0, p1⟩ ⟨q0, q1⟩ true HZ.out).mono ?_
        rintro e w1 ⟨rfl, b1⟩
        go_wp2
        go_roundw
        case rel =>
          refine ⟨k + 1, by omega, by go_num, Lib.hid fun j hj hjk => ?_, next hb b1⟩
          by_cases e : j = k
          · subst e
            obtain ⟨_, hs⟩ := HX.out
            rw [hs, HZ.out]
          · exact H.out j hj (by omega)
        case measure => simp [intOf]; omega
      | false =>
        have HZ := Lib.hid hz
        clear hz
        go_wp2_with fail
        refine (pred_any x1 x2 _ ⟨p0, p1⟩ ⟨q0, q1⟩ false HZ.out).mono ?_
        rintro e w1 ⟨rfl, b1⟩
        go_wp2
        go_ret
        have hno : l.all okG = false := by
          obtain ⟨hk', hs⟩ := HX.out
          exact okTo_not hk' (by rw [hs]; exact HZ.out)
        exact ⟨k, rfl, fun h => by (rw [hno] at h; cases h), fun _ => by omega, next hb b1⟩
    · go_wp2
      go_ret
      have hyes : l.all okG = true := okTo_all (by
        obtain rfl : k = n := by omega
        rw [HN.out]; exact H.out)
      exact ⟨-1, rfl, fun _ => rfl, fun h => by (rw [hyes] at h; cases h), hb⟩

theorem contains_any (l : List (Int × Int)) (a : Option Addr) (n c : Nat) (w : World) (h : Grps w a n l) (b : Bool) (hb : l.all okG = b) :
    Calls Tryz.prog 83 #[.slice a n c, .func (.func 84) #[] #[]] w fun e w' => e = .returned (.bool (!b)) ∧ Below w.heap.size w w' := by
  have hI := Lib.hid (index_any l a n c w h)
  clear h
  have HB := Lib.hid hb
  clear hb
  go_enter Tryz.func83, Tryz.ntmps83
  go_wp2_with fail
  refine hI.out.mono ?_
  rintro e w1 ⟨k, rfl, h1, h2, b1⟩
  rw [HB.out] at h1 h2
  cases b with
  | true =>
    obtain rfl := h1 rfl
    go_wp2
    go_ret
    exact ⟨rfl, b1⟩
  | false =>
    obtain ⟨hk, hk'⟩ := h2 rfl
    clear h1 h2
    go_wp2
    go_ret
    exact ⟨rfl, b1⟩

set_option maxHeartbeats 1000000 in
theorem right_any (l : List (Int × Int)) (s : Int) (v : Value) (w : World) (h : Meas w v l s) (b : Bool) (hb : rightL l s = b) :
    Calls Tryz.prog 54 #[v] w fun e w' => e = .returned (.bool b) ∧ Below w.heap.size w w' := by
  obtain ⟨a, n, c, rfl, hg, s0, s1⟩ := h
  have hm := hg.1
  have hn := hg.2.1
  unfold maxLen at hm
  have HG := Lib.hid hg
  clear hg
  by_cases h0 : n = 0
  · subst h0
    obtain rfl : false = b := by rw [← hb]; simp [rightL, hn]
    go_enter Tryz.func54, Tryz.ntmps54
    go_wp2
    go_ret
    exact ⟨rfl, boxed _ _⟩
  have h0' : ((n : Int) == 0) = false := by simp [h0]
  by_cases h4 : 4 < n
  · obtain rfl : false = b := by rw [← hb, rightL, hn]; simp; omega
    go_enter Tryz.func54, Tryz.ntmps54
    go_wp2
    go_ret
    exact ⟨rfl, boxed _ _⟩
  by_cases h24 : s < 24
  · obtain rfl : false = b := by rw [← hb, rightL, hn]; simp; omega
    go_enter Tryz.func54, Tryz.ntmps54
    go_wp2
    go_ret
    exact ⟨rfl, boxed _ _⟩
  by_cases h40 : 4096 < s
  · obtain rfl : false = b := by rw [← hb, rightL, hn]; simp; omega
    go_enter Tryz.func54, Tryz.ntmps54
    go_wp2
    go_ret
    exact ⟨rfl, boxed _ _⟩
  have hall : Hid (l.all okG = b) := Lib.hid (by
    rw [← hb, rightL, hn]
    simp [show 0 < n by omega, show n ≤ 4 by omega, show 24 ≤ s by omega, show s ≤ 4096 by omega])
  clear hb hn
  go_enter Tryz.func54, Tryz.ntmps54
  go_wp2_with fail
  refine (contains_any l a n c _ (HG.out.below (boxed _ _)) b hall.out).mono ?_
  rintro e w1 ⟨rfl, b1⟩
  go_wp2
  go_ret
  exact ⟨by simp, next (boxed _ _) b1⟩
end Go.Proofs.YtiffkbmcikiioaaGreat

/- The numbers of a measure: devices ahead of a group, what a group gives out, what a block takes. -/
namespace Go.Proofs.YtiffkbmcikiioaaGreat
set_option maxRecDepth 100000
open Go.RowKit

/-- The devices of the first k groups. -/
def aheadL : List (Int × Int) → Nat → Int
  | _, 0 => 0
  | [], _ + 1 => 0
  | x :: r, k + 1 => x.2 + aheadL r k
theorem aheadL_zero (l : List (Int × Int)) : aheadL l 0 = 0 := by cases l <;> rfl
theorem aheadL_succ (l : List (Int × Int)) (k : Nat) (h : k < l.length) : aheadL l (k + 1) = aheadL l k + l[k].2 := by
  induction l generalizing k with
  | nil => exact absurd h (Nat.not_lt_zero _)
  | cons x r ih =>
    cases k with
    | zero => simp [aheadL, aheadL_zero]
    | succ k =>
      have := ih k (by simpa using h)
      rw [aheadL, this, aheadL]
      simp
      omega
/-- A right measure, in parts. -/
structure RightM (l : List (Int × Int)) (s : Int) : Prop where
  pos : 0 < l.length
  few : l.length ≤ 4
  s0 : 24 ≤ s
  s1 : s ≤ 4096
  all : ∀ i (h : i < l.length), okG l[i] = true
theorem rightM_iff {l : List (Int × Int)} {s : Int} : rightL l s = true ↔ RightM l s := by
  unfold rightL
  simp only [Bool.and_eq_true, decide_eq_true_eq, List.all_eq_true]
  constructor
  · rintro ⟨⟨⟨⟨h1, h2⟩, h3⟩, h4⟩, h5⟩
    exact ⟨h1, h2, h3, h4, fun i h => h5 _ (List.getElem_mem h)⟩
  · rintro ⟨h1, h2, h3, h4, h5⟩
    refine ⟨⟨⟨⟨h1, h2⟩, h3⟩, h4⟩, fun x hx => ?_⟩
    obtain ⟨j, hj, rfl⟩ := List.getElem_of_mem hx
    exact h5 j hj
theorem okG_cases {k d : Int} (h : okG (k, d) = true) : (k = 0 ∧ 1 ≤ d ∧ d ≤ 8) ∨ (k = 1 ∧ 3 ≤ d ∧ d ≤ 8) := by
  unfold okG at h
  dsimp only at h
  split at h
  · simp at h; exact .inl ⟨by assumption, h.1, h.2⟩
  · split at h
    · simp at h; exact .inr ⟨by assumption, h.1, h.2⟩
    · cases h
theorem okG_wide {x : Int × Int} (h : okG x = true) : 1 ≤ x.2 ∧ x.2 ≤ 8 := by
  obtain ⟨k, d⟩ := x
  rcases okG_cases h with ⟨_, h1, h2⟩ | ⟨_, h1, h2⟩
  · exact ⟨h1, h2⟩
  · exact ⟨by show 1 ≤ d; omega, h2⟩
theorem RightM.bounds {l : List (Int × Int)} {s : Int} (h : RightM l s) (k : Nat) (hk : k ≤ l.length) : (k : Int) ≤ aheadL l k ∧ aheadL l k ≤ 8 * k := by
  induction k with
  | zero => rw [aheadL_zero]; omega
  | succ k ih =>
    have := ih (by omega)
    have hw := okG_wide (h.all k (by omega))
    rw [aheadL_succ l k (by omega)]
    omega
theorem RightM.mono {l : List (Int × Int)} {s : Int} (h : RightM l s) {i k : Nat} (hik : i ≤ k) (hk : k ≤ l.length) : aheadL l i ≤ aheadL l k := by
  induction k with
  | zero => obtain rfl : i = 0 := by omega
            exact Int.le_refl _
  | succ k ih =>
    by_cases e : i = k + 1
    · subst e; exact Int.le_refl _
    · have := ih (by omega) (by omega)
      have hw := okG_wide (h.all k (by omega))
      rw [aheadL_succ l k (by omega)]
      omega

def hasL (l : List (Int × Int)) (s i : Int) : Bool := rightL l s && decide (0 ≤ i) && decide (i < l.length)
theorem hasL_iff {l : List (Int × Int)} {s i : Int} : hasL l s i = true ↔ RightM l s ∧ ∃ k : Nat, i = k ∧ k < l.length := by
  unfold hasL
  simp only [Bool.and_eq_true, decide_eq_true_eq, rightM_iff]
  constructor
  · rintro ⟨⟨h1, h2⟩, h3⟩
    exact ⟨h1, i.toNat, by omega, by omega⟩
  · rintro ⟨h1, k, rfl, h2⟩
    exact ⟨⟨h1, by omega⟩, by omega⟩
def devsL (l : List (Int × Int)) (s : Int) : Int := if rightL l s then aheadL l l.length else 0
def firstL (l : List (Int × Int)) (s i : Int) : Int := if hasL l s i then aheadL l i.toNat else 0
def gives (x : Int × Int) (s : Int) : Int := if x.1 = 1 then (s - 16) * x.2 else s - 16
def takesG (x : Int × Int) (z : Int) : Int := if x.1 = 0 then z else if z = 1 then 2 else if z = 2 then 4 else if z = 3 then (if x.2 = 3 then 6 else 4) else 6

/-- A group of a measure, in memory. -/
theorem Grps.at_ {w : World} {a : Option Addr} {n : Nat} {l : List (Int × Int)} (h : Grps w a n l) (i : Nat) (hi : i < n) :
    ∃ g o k d, a = some ⟨g, o, none⟩ ∧ (∃ h : i < l.length, l[i] = (k, d)) ∧ IsG w g (o + i * 2) (k, d) := by
  obtain ⟨_, h2, h3⟩ := h
  have hi' : i < l.length := by omega
  obtain ⟨g, o, ha, hx⟩ := h3 i hi'
  exact ⟨g, o, l[i].1, l[i].2, ha, ⟨hi', rfl⟩, hx⟩

set_option maxHeartbeats 1000000 in
theorem ahead_any (l : List (Int × Int)) (s : Int) (v : Value) (w : World) (h : Meas w v l s) (hr : RightM l s) (m : Nat) (hml : m ≤ l.length) (x : Int) (hx : aheadL l m = x) :
    Calls Tryz.prog 85 #[v, .int .i64 (m : Int)] w fun e w' => e = .returned (.int .i64 x) ∧ Below w.heap.size w w' := by
  obtain ⟨a, n, c, rfl, hg, s0, s1⟩ := h
  have HG := Lib.hid (hg.below (boxed w (.cells #[.slice a n c, .int .i64 s] 24)))
  have hmn : m ≤ n := by rw [← hg.2.1]; exact hml
  have hn4 : n ≤ 4 := by rw [← hg.2.1]; exact hr.few
  have HR := Lib.hid hr
  have HX := Lib.hid hx
  have HM := Lib.hid hml
  clear hg hr hx hml
  go_enter Tryz.func85, Tryz.ntmps85
  go_wp2_with fail
  go_loop [5, 8] (fun t i => ∃ (k : Nat) (y : Int), k ≤ m ∧ i = .int .i64 k ∧ t = .int .i64 y ∧ y = aheadL l k) (fun _ i => m - (intOf i).toNat)
  case atStart => exact ⟨0, 0, Nat.zero_le _, rfl, rfl, (aheadL_zero l).symm⟩
  case round =>
    obtain ⟨k, y, hk, rfl, rfl, hy⟩ := hrel
    by_cases hlt : k < m
    · obtain ⟨g, o, kk, d, rfl, hld, hG⟩ := HG.out.at_ k (by omega)
      obtain ⟨_, c0, c1, p0, p1, q0, q1⟩ := hG
      have hb := HR.out.bounds k (by have := HM.out; omega)
      have hb' := HR.out.bounds (k + 1) (by have := HM.out; omega)
      have hs : aheadL l (k + 1) = y + d := by
        obtain ⟨hk', e⟩ := hld
        rw [aheadL_succ l k hk', e, hy]
      have HS := Lib.hid hs
      have hy0 : 0 ≤ y ∧ y ≤ 40 := by omega
      have hd0 : 0 ≤ y + d ∧ y + d ≤ 40 := by omega
      clear hb hb' hs hy hld
      obtain ⟨y0, y1⟩ := hy0
      obtain ⟨z0, z1⟩ := hd0
      go_wp2
      go_round
      case rel => exact ⟨k + 1, y + d, by omega, by go_num, by go_num, HS.out.symm⟩
      case measure => simp [intOf]; omega
    · obtain rfl : k = m := by omega
      have HY := Lib.hid hy
      clear hy
      go_wp2
      go_ret
      exact ⟨by rw [← HX.out, ← HY.out]; rfl, boxed _ _⟩

set_option maxHeartbeats 1000000 in
theorem has_any (l : List (Int × Int)) (s : Int) (v : Value) (w : World) (h : Meas w v l s) (i : Int) (hi : -9223372036854775808 ≤ i ∧ i ≤ 9223372036854775807) (b : Bool) (hb : hasL l s i = b) :
    Calls Tryz.prog 105 #[v, .int .i64 i] w fun e w' => e = .returned (.bool b) ∧ Below w.heap.size w w' := by
  have HH := Lib.hid (h.below (boxed w (.cells (match v with | .agg x => x | _ => #[]) 24)))
  obtain ⟨a, n, c, rfl, hg, s0, s1⟩ := h
  dsimp only at HH
  obtain ⟨i0, i1⟩ := hi
  have hn := hg.2.1
  have hm := hg.1
  unfold maxLen at hm
  unfold hasL at hb
  rw [hn] at hb
  clear hg hn
  cases hr : rightL l s with
  | false =>
    rw [hr] at hb
    obtain rfl : false = b := by simpa using hb
    have HR := Lib.hid hr
    clear hr hb
    go_enter Tryz.func105, Tryz.ntmps105
    go_wp2_with fail
    refine (right_any l s _ _ HH.out false HR.out).mono ?_
    rintro e w1 ⟨rfl, b1⟩
    go_wp2
    go_ret
    exact ⟨rfl, next (boxed _ _) b1⟩
  | true =>
    rw [hr] at hb
    have HR := Lib.hid hr
    clear hr
    by_cases h0 : 0 ≤ i
    · by_cases h1 : i < n
      · obtain rfl : true = b := by rw [← hb]; simp [h0, h1]
        clear hb
        go_enter Tryz.func105, Tryz.ntmps105
        go_wp2_with fail
        refine (right_any l s _ _ HH.out true HR.out).mono ?_
        rintro e w1 ⟨rfl, b1⟩
        have hc0 := b1.cell (p := ⟨w.heap.size, 0, none⟩) (by simp)
        simp at hc0
        go_wp2
        go_ret
        exact ⟨rfl, next (boxed _ _) b1⟩
      · obtain rfl : false = b := by rw [← hb]; simp [h0, h1]
        clear hb
        go_enter Tryz.func105, Tryz.ntmps105
        go_wp2_with fail
        refine (right_any l s _ _ HH.out true HR.out).mono ?_
        rintro e w1 ⟨rfl, b1⟩
        have hc0 := b1.cell (p := ⟨w.heap.size, 0, none⟩) (by simp)
        simp at hc0
        go_wp2
        go_ret
        exact ⟨by simp [h1], next (boxed _ _) b1⟩
    · obtain rfl : false = b := by rw [← hb]; simp [h0]
      clear hb
      go_enter Tryz.func105, Tryz.ntmps105
      go_wp2_with fail
      refine (right_any l s _ _ HH.out true HR.out).mono ?_
      rintro e w1 ⟨rfl, b1⟩
      go_wp2
      go_ret
      exact ⟨rfl, next (boxed _ _) b1⟩
end Go.Proofs.YtiffkbmcikiioaaGreat
