/-
  slices.DeleteFunc of columns, walked.
  cols.Data, cols.Rows: what they answer.
  The data columns of a block's sectors: how many there are.
  The rows of a block's columns.
  Plain facts on columns and their parity (no program is named here).
  Blocks as columns, and what columns may come to: plain facts (no program is named here).
  Texts in memory: a slice of them that came in, or that is one's own; a row of bytes.
  code.fitting, code.Fits: columns that were read.
  A range over a function whose iterator keeps its place in cells of its own: a law for the statement, and the contract that such an iterator is to meet. No program is named here.
  The law for a range over a function once more: what is handed out is several values.
  An own slice of numbers.
-/
import Derived.Test.YtpalgadokdcgnaaMa
import Derived.SliceStrings
import Derived.Laws.AppendOwn
import Derived.Laws.OwnMore
import Derived.Laws.IdiomStrings
import Derived.Laws.BytesString
import Derived.Laws.Cells
import Derived.Laws.BitsAllLaws
import Derived.Lib.AppendZeros
import Derived.RangeFuncCalls
import Derived.RangeFuncLeaves
import Derived.RangeFuncBound
import Derived.Below

/- slices.DeleteFunc of columns, walked. -/
namespace Go.Proofs.Ytpalgadokdcgnaa
set_option maxRecDepth 100000
open Go.RowKit

theorem delete_none (w : World) (L : List C) (a : Option Addr) (n c : Nat) (hV : ColsV w (.slice a n c) L) (hn : n ≤ 100000) (hp : ∀ j (h : j < L.length), L[j].par = false) :
    Calls Try.prog 47 #[.slice a n c, .func (.func 49) #[] #[]] w fun e w' => e = .returned (.slice a n c) ∧ Below w.heap.size w w' := by
  have HI := Lib.hid (index_none w L a n c hV hn hp)
  clear hV hp
  go_enter Try.func47, Try.ntmps47
  go_wp2_with fail
  refine HI.out.mono ?_
  rintro e w1 ⟨rfl, b1⟩
  go_wp2
  go_ret
  exact ⟨rfl, b1⟩

/-- Block g is a row with room for c columns, of which the first are l. -/
structure RowC (w : World) (g c : Nat) (l : List C) : Prop where
  shape : ∃ cur : Array Value, w.heap[g]? = some (.cells cur 40 (0, 0)) ∧ cur.size = c * 4
  at_ : ∀ j (h : j < l.length), IsC w g (j * 4) l[j]
  le : l.length ≤ c
theorem RowC.lt {w : World} {g c : Nat} {l : List C} (h : RowC w g c l) : g < w.heap.size := by
  obtain ⟨cur, h1, _⟩ := h.shape
  exact (Array.getElem?_eq_some_iff.1 h1).1
theorem RowC.frozen {w : World} {g c : Nat} {l : List C} (h : RowC w g c l) (o : Nat) : w.frozen? ⟨g, o, none⟩ = false := by
  obtain ⟨cur, h1, _⟩ := h.shape
  simp [World.frozen?, h1]
theorem own_row {w : World} {B : Nat} {v : Value} {l : List C} (h : OwnC B w v l) (hl : 0 < l.length) : ∃ g c, v = .slice (some ⟨g, 0, none⟩) l.length c ∧ l.length ≤ c ∧ c ≤ maxLen ∧ B ≤ g ∧ RowC w g c l := by
  obtain ⟨g, c, rfl, hc, hB, hA⟩ := h.some hl
  rcases h.2 with ⟨h0, _⟩ | ⟨g', cap, cur, hv, hB', hb, hnc, hm, hs, _⟩
  · cases h0
  · cases hv
    exact ⟨g, c, rfl, hc, hm, hB, ⟨cur, hb, hs⟩, hA.at_, hc⟩
theorem RowC.next {w w' : World} {B g c : Nat} {l : List C} (h : RowC w g c l) (hg : g < B) (k : Below B w w') : RowC w' g c l := by
  obtain ⟨cur, h1, h2⟩ := h.shape
  exact ⟨⟨cur, by rw [k.block g hg]; exact h1, h2⟩, fun j hj => (h.at_ j hj).below hg k, h.le⟩

theorem RowC.shaped {w : World} {g c : Nat} (h : ∃ cur : Array Value, w.heap[g]? = some (.cells cur 40 (0, 0)) ∧ cur.size = c * 4) (a : Addr) (v : Value) : ∃ cur : Array Value, (w.setCell a v).heap[g]? = some (.cells cur 40 (0, 0)) ∧ cur.size = c * 4 := by
  obtain ⟨cur, h1, h2⟩ := h
  by_cases e : a.block = g
  · refine ⟨if a.spot.isSome then cur else cur.setIfInBounds a.off v, ?_, ?_⟩
    · simp only [World.setCell, Array.getElem?_modify, e, if_true, h1]
      simp
    · split <;> simp [h2]
  · exact ⟨cur, by rw [Below.heap_setCell _ _ _ _ (fun e' => e e'.symm)]; exact h1, h2⟩
theorem RowC.shapeds {g c : Nat} (b : Nat) : ∀ (vs : List Value) (o : Nat) (w : World), (∃ cur : Array Value, w.heap[g]? = some (.cells cur 40 (0, 0)) ∧ cur.size = c * 4) → ∃ cur : Array Value, (w.setCells b o vs).heap[g]? = some (.cells cur 40 (0, 0)) ∧ cur.size = c * 4
  | [], _, _, h => h
  | v :: r, o, _, h => RowC.shapeds b r (o + 1) _ (RowC.shaped h _ v)
theorem RowC.cell {w : World} {g c : Nat} {l : List C} (h : RowC w g c l) {o : Nat} (ho : o < c * 4) : (w.cell? ⟨g, o, none⟩).isSome = true := by
  obtain ⟨cur, h1, h2⟩ := h.shape
  simp [World.cell?, h1]
  omega
theorem RowC.set {w : World} {g c : Nat} {l : List C} (h : RowC w g c l) (i : Nat) (hi : i < l.length) (x : C) : RowC (w.setCells g (i * 4) (C.cells x)) g c (l.set i x) := by
  have hle := h.le
  refine ⟨RowC.shapeds _ _ _ _ h.shape, fun k hk => IsC.of fun j hj => ?_, by simpa using h.le⟩
  rw [List.length_set] at hk
  by_cases e : i = k
  · subst e
    rw [World.cell?_setCells_in g (C.cells x) (i * 4) w (fun j hj => h.cell (by have : j < 4 := hj; omega)) j hj, List.getElem?_eq_getElem (show j < (C.cells (l.set i x)[i]).length from hj)]
    congr 1
    simp
    rfl
  · rw [World.cell?_setCells_out g (C.cells x) (i * 4) w _ (fun _ _ => by show _ < _ ∨ _ + 4 ≤ _; dsimp only; omega), List.getElem_set_ne e]
    exact (h.at_ k hk).get j hj
theorem setCells_below {B g : Nat} (hB : B ≤ g) : ∀ (vs : List Value) (o : Nat) (w : World), Below B w (w.setCells g o vs)
  | [], _, _ => Below.refl _ _
  | v :: r, o, w => ((Below.refl B w).setCell (p := ⟨g, o, none⟩) hB v).trans (setCells_below hB r (o + 1) _)
abbrev zC : Value := .agg #[.int .i64 0, .int .i64 0, .bool false, .int .i64 0]
theorem zero_col (w : World) : (zeroValue 40).run Try.prog w = .ok zC w := by kernel_rfl
theorem zeros_one (n : Nat) : ∀ v ∈ (Builtin.zeroCells zC.cells n).toList, v.oneCell' = true := by
  intro v hv
  simp [Builtin.zeroCells, Value.cells] at hv
  obtain ⟨i, _, h⟩ := hv
  have h4 : i % 4 < 4 := Nat.mod_lt _ (by decide)
  generalize i % 4 = q at h h4
  match q, h4 with
  | 0, _ => simp at h; subst h; rfl
  | 1, _ => simp at h; subst h; rfl
  | 2, _ => simp at h; subst h; rfl
  | 3, _ => simp at h; subst h; rfl
/-- clear of a slice of columns. -/
theorem run_clear_col (w : World) (ty : TypeId) (b o n c : Nat) (hn : 0 < n) (hc : ∀ j, j < n * 4 → (w.cell? ⟨b, o + j, none⟩).isSome = true) (hf : ∀ j, w.frozen? ⟨b, o + j, none⟩ = false) :
    (Builtin.clear_ #[33] ty #[.slice (some ⟨b, o, none⟩) n c]).run Try.prog w = .ok (.tuple #[]) (w.setCells b o (Builtin.zeroCells zC.cells n).toList) := by
  have hlen : (Builtin.zeroCells zC.cells n).toList.length = n * 4 := by
    rw [Array.length_toList, size_zeroCells]; rfl
  have hst := run_storeCells_cells (P := Try.prog) b o (Builtin.zeroCells zC.cells n).toList 0 w (by rw [hlen]; simpa using hc) (fun j _ => by simpa using hf j) (zeros_one n)
  simp only [Nat.add_zero] at hst
  obtain ⟨m, rfl⟩ : ∃ m, n = m + 1 := ⟨n - 1, by omega⟩
  simp [Builtin.clear_, run_underlying Try.underlying33]
  rw [hst]
  rfl

theorem keep_step {L X : List C} {i j n : Nat} {x : C} (h1 : X.length = n) (h2 : X.take i = (L.take j).filter (fun x => !x.par)) (h3 : ∀ m, j ≤ m → X[m]? = L[m]?) (hij : i < j) (hj : j < n) (hx : X[j]? = some x) (hp : x.par = false) :
    (X.set i x).length = n ∧ (X.set i x).take (i + 1) = (L.take (j + 1)).filter (fun x => !x.par) ∧ ∀ m, j + 1 ≤ m → (X.set i x)[m]? = L[m]? := by
  refine ⟨by simpa using h1, ?_, fun m hm => ?_⟩
  · have hLj : L[j]? = some x := by rw [← h3 j (Nat.le_refl _)]; exact hx
    rw [List.take_add_one, List.take_set_of_le (Nat.le_refl _), List.getElem?_set_self (by omega), h2, List.take_add_one, hLj, List.filter_append]
    simp [hp]
  · rw [List.getElem?_set_ne (by omega)]
    exact h3 m (by omega)
theorem drop_step {L X : List C} {i j n : Nat} {x : C} (h2 : X.take i = (L.take j).filter (fun x => !x.par)) (h3 : ∀ m, j ≤ m → X[m]? = L[m]?) (hx : X[j]? = some x) (hp : x.par = true) (h1 : X.length = n) :
    X.length = n ∧ X.take i = (L.take (j + 1)).filter (fun x => !x.par) ∧ ∀ m, j + 1 ≤ m → X[m]? = L[m]? := by
  refine ⟨h1, ?_, fun m hm => h3 m (by omega)⟩
  have hLj : L[j]? = some x := by rw [← h3 j (Nat.le_refl _)]; exact hx
  rw [h2, List.take_add_one, hLj, List.filter_append]
  simp [hp]

set_option maxHeartbeats 1000000 in
theorem delete_some (w : World) (L : List C) (g n c : Nat) (hR : RowC w g c L) (hl : L.length = n) (hn : n ≤ 100000) (hc : c ≤ maxLen) (h0 : 0 < L.length) (hp : L[0].par = true) :
    Calls Try.prog 47 #[.slice (some ⟨g, 0, none⟩) n c, .func (.func 49) #[] #[]] w fun e w' => e = .returned (.slice (some ⟨g, 0, none⟩) (L.filter fun x => !x.par).length c) ∧ RowC w' g c (L.filter fun x => !x.par) ∧ ∀ B, B ≤ g → Below B w w' := by
  have HI := Lib.hid (index_zero w L (some ⟨g, 0, none⟩) n c ⟨_, _, _, rfl, hl, fun j h => ⟨g, rfl, hR.lt, hR.at_ j h⟩⟩ hn h0 hp)
  have HR := Lib.hid hR
  have HL := Lib.hid hl
  unfold maxLen at hc
  have hnc : n ≤ c := by rw [← hl]; exact hR.le
  have HP0 : Hid (∃ x, L[0]? = some x ∧ x.par = true) := Lib.hid ⟨_, List.getElem?_eq_getElem h0, hp⟩
  clear hR hl hp
  go_enter Try.func47, Try.ntmps47
  go_wp2_with fail
  refine HI.out.mono ?_
  rintro e w1 ⟨rfl, b1⟩
  have HR1 := Lib.hid (HR.out.next HR.out.lt b1)
  have hn0 : 0 < n := by rw [← HL.out]; exact h0
  go_wp2_with fail
  go_loopw [5, 6] (fun i5 i6 wr => ∃ (i j : Nat) (X : List C), i < j ∧ j ≤ n ∧ i5 = .int .i64 (i : Int) ∧ i6 = .int .i64 (j : Int) ∧ Hid (X.length = n ∧ X.take i = (L.take j).filter (fun x => !x.par) ∧ ∀ m, j ≤ m → X[m]? = L[m]?) ∧ Hid (RowC wr g c X) ∧ Hid (∀ B, B ≤ g → Below B w wr)) (fun _ j _ => n - (intOf j).toNat)
  case atStart =>
    refine ⟨0, 1, L, by omega, hn0, rfl, rfl, Lib.hid ⟨HL.out, ?_, fun _ _ => rfl⟩, HR1, Lib.hid fun B hB => b1.mono (by have := HR.out.lt; omega)⟩
    obtain ⟨x, h1, h2⟩ := HP0.out
    rw [List.take_zero, List.take_add_one, h1]
    simp [h2]
  case round =>
    obtain ⟨i, j, X, hij, hjn, rfl, rfl, HX, HRX, HB⟩ := hrel
    by_cases hjl : j < n
    · obtain ⟨x, hx⟩ : ∃ x, X[j]'(by rw [HX.out.1]; exact hjl) = x := ⟨_, rfl⟩
      have hCx := HRX.out.at_ j (by rw [HX.out.1]; exact hjl)
      have hXi := HRX.out.at_ i (by rw [HX.out.1]; omega)
      rw [hx] at hCx
      obtain ⟨e0, e1, e2, e3⟩ := hCx
      obtain ⟨y, hy⟩ : ∃ y, X[i]'(by rw [HX.out.1]; omega) = y := ⟨_, rfl⟩
      rw [hy] at hXi
      have f0 := HRX.out.frozen (i * 4)
      have f1 := HRX.out.frozen (i * 4 + 1)
      have f2 := HRX.out.frozen (i * 4 + 2)
      have f3 := HRX.out.frozen (i * 4 + 3)
      obtain ⟨y0, y1, y2, y3⟩ := hXi
      have HXJ : Hid (∃ h : j < X.length, X[j] = x) := Lib.hid ⟨_, hx⟩
      clear hx hy
      have hlt := HRX.out.lt
      cases hpx : x.par with
      | true =>
        rw [hpx] at e2
        have HPX := Lib.hid hpx
        clear hpx
        have hI := Lib.hid (isPar (wr.alloc (.cells #[.int .i64 x.dev, .int .i64 x.at_, .bool true, .int .i64 x.row] 40)) x)
        go_wp2_with fail
        refine (by have := hI.out; rw [HPX.out] at this; exact this : Calls Try.prog 49 #[.agg #[.int .i64 x.dev, .int .i64 x.at_, .bool true, .int .i64 x.row]] (wr.alloc (.cells #[.int .i64 x.dev, .int .i64 x.at_, .bool true, .int .i64 x.row] 40)) fun e w' => e = .returned (.bool true) ∧ Below (wr.alloc (.cells #[.int .i64 x.dev, .int .i64 x.at_, .bool true, .int .i64 x.row] 40)).heap.size (wr.alloc (.cells #[.int .i64 x.dev, .int .i64 x.at_, .bool true, .int .i64 x.row] 40)) w').mono ?_
        rintro e w2 ⟨rfl, b2⟩
        have BB := Lib.hid (next (boxed _ _) b2)
        clear e0 e1 e2 e3 y0 y1 y2 y3 f0 f1 f2 f3 b2
        go_wp2
        go_roundw
        case rel =>
          refine ⟨i, j + 1, X, by omega, by omega, rfl, by go_num, Lib.hid ?_, Lib.hid (HRX.out.next HRX.out.lt BB.out), Lib.hid fun B hB => (HB.out B hB).trans (BB.out.mono (by omega))⟩
          obtain ⟨h1, h2, h3⟩ := HX.out
          obtain ⟨hh, e⟩ := HXJ.out
          exact drop_step h2 h3 (by rw [List.getElem?_eq_getElem hh, e]) HPX.out h1
        case measure => simp [intOf]; omega
      | false =>
        rw [hpx] at e2
        have HPX := Lib.hid hpx
        clear hpx
        have hI := Lib.hid (isPar (wr.alloc (.cells #[.int .i64 x.dev, .int .i64 x.at_, .bool false, .int .i64 x.row] 40)) x)
        go_wp2_with fail
        refine (by have := hI.out; rw [HPX.out] at this; exact this : Calls Try.prog 49 #[.agg #[.int .i64 x.dev, .int .i64 x.at_, .bool false, .int .i64 x.row]] (wr.alloc (.cells #[.int .i64 x.dev, .int .i64 x.at_, .bool false, .int .i64 x.row] 40)) fun e w' => e = .returned (.bool false) ∧ Below (wr.alloc (.cells #[.int .i64 x.dev, .int .i64 x.at_, .bool false, .int .i64 x.row] 40)).heap.size (wr.alloc (.cells #[.int .i64 x.dev, .int .i64 x.at_, .bool false, .int .i64 x.row] 40)) w').mono ?_
        rintro e w2 ⟨rfl, b2⟩
        have hv : IsC w2 wr.heap.size 0 x := by
          refine IsC.below (w := wr.alloc (.cells #[.int .i64 x.dev, .int .i64 x.at_, .bool false, .int .i64 x.row] 40)) ⟨by simp, by simp, by simp [HPX.out], by simp⟩ (by simp) b2
        obtain ⟨v0, v1, v2, v3⟩ := hv
        rw [HPX.out] at v2
        have bb := next (boxed _ _) b2
        have r0 := (bb.cell (p := ⟨g, i * 4, none⟩) hlt).trans y0
        have r1 := (bb.cell (p := ⟨g, i * 4 + 1, none⟩) hlt).trans y1
        have r2 := (bb.cell (p := ⟨g, i * 4 + 2, none⟩) hlt).trans y2
        have r3 := (bb.cell (p := ⟨g, i * 4 + 3, none⟩) hlt).trans y3
        have z0 := (bb.frozen (p := ⟨g, i * 4, none⟩) hlt).trans f0
        have z1 := (bb.frozen (p := ⟨g, i * 4 + 1, none⟩) hlt).trans f1
        have z2 := (bb.frozen (p := ⟨g, i * 4 + 2, none⟩) hlt).trans f2
        have z3 := (bb.frozen (p := ⟨g, i * 4 + 3, none⟩) hlt).trans f3
        have BB := Lib.hid bb
        clear e0 e1 e2 e3 y0 y1 y2 y3 f0 f1 f2 f3 b2 bb
        go_wp2
        go_roundw
        case rel =>
          have hset := (HRX.out.next HRX.out.lt BB.out).set i (by rw [HX.out.1]; omega) x
          have ew : w2.setCells g (i * 4) (C.cells x) = (((w2.setCell ⟨g, i * 4, none⟩ (.int .i64 x.dev)).setCell ⟨g, i * 4 + 1, none⟩ (.int .i64 x.at_)).setCell ⟨g, i * 4 + 2, none⟩ (.bool false)).setCell ⟨g, i * 4 + 3, none⟩ (.int .i64 x.row) := by rw [← HPX.out]; rfl
          have hbel := fun B (hB : B ≤ g) => setCells_below hB (C.cells x) (i * 4) w2
          rw [ew] at hset hbel
          refine ⟨i + 1, j + 1, X.set i x, by omega, by omega, by go_num, by go_num, Lib.hid ?_, Lib.hid hset, Lib.hid fun B hB => ((HB.out B hB).trans (BB.out.mono (by omega))).trans (hbel B hB)⟩
          obtain ⟨h1, h2, h3⟩ := HX.out
          obtain ⟨hh, e⟩ := HXJ.out
          exact keep_step h1 h2 h3 hij hjl (by rw [List.getElem?_eq_getElem hh, e]) HPX.out
        case measure => simp [intOf]; omega
    · obtain rfl : j = n := by omega
      have hin : i < j := hij
      have hic : i < c := by omega
      have hci : ¬ c = i := by omega
      obtain ⟨zs, hcl⟩ : ∃ zs : List Value, ∀ ty, (Builtin.clear_ #[33] ty #[.slice (some ⟨g, i * 4, none⟩) (j - i) (c - i)]).run Try.prog wr = .ok (.tuple #[]) (wr.setCells g (i * 4) zs) := ⟨_, fun ty => run_clear_col wr ty g (i * 4) (j - i) (c - i) (by omega) (fun m hm => HRX.out.cell (by have := HX.out.1; have := HRX.out.le; omega)) (fun m => HRX.out.frozen _)⟩
      have q0 : (j : Int) - i = ((j - i : Nat) : Int) := by omega
      go_wp2
      go_ret
      obtain ⟨h1, h2, h3⟩ := HX.out
      have e : L.filter (fun x => !x.par) = X.take i := by rw [h2, ← HL.out, List.take_length]
      have hlen : (X.take i).length = i := by rw [List.length_take]; omega
      rw [e, hlen]
      refine ⟨rfl, ⟨RowC.shapeds _ _ _ _ HRX.out.shape, fun m hm => IsC.of fun q hq => ?_, by rw [hlen]; omega⟩, fun B hB => (HB.out B hB).trans (setCells_below hB _ _ _)⟩
      rw [hlen] at hm
      rw [World.cell?_setCells_out g zs (i * 4) wr _ (fun _ _ => by dsimp only; omega), List.getElem_take]
      exact (HRX.out.at_ m (by omega)).get q hq
end Go.Proofs.Ytpalgadokdcgnaa

/- cols.Data, cols.Rows: what they answer. -/
namespace Go.Proofs.Ytpalgadokdcgnaa
set_option maxRecDepth 100000
open Go.RowKit

def datL (L : List C) : List C := L.filter fun x => !x.par
/-- Of the first k columns those that hold sector i of a block of z. -/
def heldTo (M : List C) (z : Nat) (i : Int) : Nat → List C
  | 0 => []
  | k + 1 => if ((k % z : Nat) : Int) = i then heldTo M z i k ++ M[k]?.toList else heldTo M z i k
theorem heldTo_len (M : List C) (z : Nat) (i : Int) (k : Nat) : (heldTo M z i k).length ≤ k := by
  induction k with
  | zero => exact Nat.le_refl _
  | succ k ih =>
    unfold heldTo
    split
    · rw [List.length_append]
      have : M[k]?.toList.length ≤ 1 := by cases M[k]? <;> simp
      omega
    · omega
theorem heldTo_yes {M : List C} {z : Nat} {i : Int} {k : Nat} {x : C} (h : ((k % z : Nat) : Int) = i) (hx : ∃ hk : k < M.length, M[k] = x) : heldTo M z i (k + 1) = heldTo M z i k ++ [x] := by
  obtain ⟨hk, rfl⟩ := hx
  rw [heldTo, if_pos h, List.getElem?_eq_getElem hk]
  rfl
theorem heldTo_no {M : List C} {z : Nat} {i : Int} {k : Nat} (h : ¬ ((k % z : Nat) : Int) = i) : heldTo M z i (k + 1) = heldTo M z i k := by
  rw [heldTo, if_neg h]

/-- Either no parity is among the columns, or the first one is one. -/
def Heads (L : List C) : Prop := (∀ j (h : j < L.length), L[j].par = false) ∨ ∃ h : 0 < L.length, L[0].par = true
theorem delete_any (w : World) (B : Nat) (v : Value) (L : List C) (ho : OwnC B w v L) (hB : B ≤ w.heap.size) (hn : L.length ≤ 100000) (hh : Heads L) :
    Calls Try.prog 47 #[v, .func (.func 49) #[] #[]] w fun e w' => ∃ v', e = .returned v' ∧ ColsV w' v' (datL L) ∧ Below B w w' := by
  rcases hh with hh | ⟨h0, hp⟩
  · obtain ⟨a, c, rfl⟩ := ho.none
    refine (delete_none w L a L.length c ho.v hn hh).mono fun e w' ⟨h1, h2⟩ => ⟨_, h1, ?_, h2.mono hB⟩
    have e : datL L = L := List.filter_eq_self.2 fun x hx => by
      obtain ⟨j, hj, rfl⟩ := List.getElem_of_mem hx
      simp [hh j hj]
    rw [e]
    exact ho.v.next h2
  · obtain ⟨g, c, rfl, hc, hm, hg, hR⟩ := own_row ho h0
    exact (delete_some w L g L.length c hR rfl hn hm h0 hp).mono fun e w' ⟨h1, h2, h3⟩ => ⟨_, h1, ⟨_, _, _, rfl, rfl, fun j hj => ⟨g, rfl, h2.lt, h2.at_ j hj⟩⟩, h3 B hg⟩
theorem heads_mir (f t : Int) (u z : Nat) (hz : 0 < z) : Heads (mirL f t u z) := .inl fun j h => by rw [mirL_get f t z hz u j h]
theorem parTo_head (f : Int) (t u z : Nat) : ∃ h : 0 < (parTo f t u (z + 1)).length, (parTo f t u (z + 1))[0].par = true := by
  induction z with
  | zero => simp [parTo, colP]
  | succ z ih =>
    obtain ⟨h, hp⟩ := ih
    have key : ∀ M, parTo f t u (z + 2) = parTo f t u (z + 1) ++ M → ∃ h : 0 < (parTo f t u (z + 2)).length, (parTo f t u (z + 2))[0].par = true := by
      intro M e
      have h' : 0 < (parTo f t u (z + 2)).length := by rw [e, List.length_append]; omega
      refine ⟨h', ?_⟩
      have e2 : (parTo f t u (z + 2))[0]? = (parTo f t u (z + 1))[0]? := by rw [e, List.getElem?_append_left h]
      rw [List.getElem?_eq_getElem h', List.getElem?_eq_getElem h] at e2
      rw [Option.some.inj e2]
      exact hp
    by_cases hm : (z + 1) % (u - 1) = 0
    · exact key _ (by rw [parTo, if_pos hm, List.append_assoc])
    · exact key _ (by rw [parTo, if_neg hm])
theorem Blk.heads {l : List (Int × Int)} {s : Int} {k t z : Nat} (h : Blk l s k t z) : Heads (colsOf l k t z) := by
  unfold colsOf colsG
  have hz := h.z1
  split
  · exact heads_mir _ _ _ _ (by omega)
  · obtain ⟨z', rfl⟩ : ∃ z', z = z' + 1 := ⟨z - 1, by omega⟩
    exact .inr (parTo_head _ _ _ _)

/-- The columns that hold sector i of a block. -/
def dataOf (l : List (Int × Int)) (k t z : Nat) (i : Int) : List C := heldTo (datL (colsOf l k t z)) z i (datL (colsOf l k t z)).length
theorem rows_nil (w : World) : Calls Try.prog 22 #[.slice none 0 0] w fun e w' => e = .returned (.int .i64 0) ∧ Below w.heap.size w w' := by
  go_enter Try.func22, Try.ntmps22
  go_wp2
  go_ret
  exact ⟨rfl, Below.refl _ _⟩
set_option maxHeartbeats 1000000 in
theorem rows_any (w : World) (L : List C) (g n c : Nat) (hg : g < w.heap.size) (hl : L.length = n) (hn : n ≤ 100000) (hC : ∀ j (h : j < L.length), IsC w g (j * 4) L[j]) (R : Nat) (hR : R ≤ 1000) (hr : ∀ j (h : j < L.length), 0 ≤ L[j].row ∧ L[j].row < R) (hm : ∃ j, ∃ h : j < L.length, L[j].row = (R : Int) - 1) :
    Calls Try.prog 22 #[.slice (some ⟨g, 0, none⟩) n c] w fun e w' => e = .returned (.int .i64 (R : Int)) ∧ Below w.heap.size w w' := by
  obtain ⟨jm, hjm, hjr⟩ := hm
  have hn0 : 0 < n := by omega
  have hnz : ((n : Int) == 0) = false := by simp; omega
  have k3 := (hC 0 (by omega)).c3
  obtain ⟨r0, hr0⟩ : ∃ r, (L[0]'(by omega)).row = r := ⟨_, rfl⟩
  have hrb := hr 0 (by omega)
  rw [hr0] at k3 hrb
  obtain ⟨rb0, rb1⟩ := hrb
  simp only [Nat.zero_mul, Nat.zero_add] at k3
  have HC := Lib.hid hC
  have HL := Lib.hid hl
  have HRR := Lib.hid hr
  have HJ : Hid (∃ h : jm < L.length, L[jm].row = (R : Int) - 1) := Lib.hid ⟨hjm, hjr⟩
  have HR0 : Hid (∃ h : 0 < L.length, L[0].row = r0) := Lib.hid ⟨_, hr0⟩
  clear hC hl hr hjr hjm hr0
  go_enter Try.func22, Try.ntmps22
  go_wp2_with fail
  go_loopw [3, 15] (fun i3 i15 wr => ∃ (j : Nat) (m : Int), j ≤ n ∧ 0 ≤ m ∧ m < R ∧ i3 = .int .i64 m ∧ i15 = .int .i64 (j : Int) ∧ Hid (∀ q (h : q < L.length), q < j → L[q].row ≤ m) ∧ Hid (Below w.heap.size w wr)) (fun _ i _ => n - (intOf i).toNat)
  case atStart => exact ⟨0, r0, Nat.zero_le _, rb0, rb1, rfl, rfl, Lib.hid fun q _ h => absurd h (Nat.not_lt_zero _), Lib.hid (Below.refl _ _)⟩
  case round =>
    obtain ⟨j, m, hj, m0, m1, rfl, rfl, HM, HW⟩ := hrel
    by_cases hjn : j < n
    · have hjl : j < L.length := by rw [HL.out]; exact hjn
      obtain ⟨x, hx⟩ : ∃ x, L[j] = x := ⟨_, rfl⟩
      have hCx := (HC.out j hjl).below hg HW.out
      have hrx := HRR.out j hjl
      rw [hx] at hCx hrx
      obtain ⟨e0, e1, e2, e3⟩ := hCx
      obtain ⟨x0, x1⟩ := hrx
      have HX : Hid (∃ h : j < L.length, L[j] = x) := Lib.hid ⟨hjl, hx⟩
      clear hx hjl
      go_wp2
      go_roundw
      case rel =>
        refine ⟨j + 1, if m < x.row then x.row else m, by omega, by split <;> omega, by split <;> omega, rfl, by go_num, Lib.hid fun q h hq => ?_, Lib.hid (grows_alloc HW.out _)⟩
        by_cases e : q = j
        · subst e
          obtain ⟨_, e⟩ := HX.out
          rw [e]
          split <;> omega
        · have := HM.out q h (by omega)
          split <;> omega
      case measure => simp [intOf]; omega
    · obtain rfl : j = n := by omega
      have hmr : m = (R : Int) - 1 := by
        obtain ⟨h, e⟩ := HJ.out
        have := HM.out jm h (by rw [← HL.out]; exact h)
        omega
      have HMR := Lib.hid hmr
      clear hmr
      go_wp2
      go_ret
      exact ⟨by rw [show (R : Int) = m + 1 by have := HMR.out; omega]; rfl, HW.out⟩
end Go.Proofs.Ytpalgadokdcgnaa

/- The data columns of a block's sectors: how many there are. -/
namespace Go.Proofs.Ytpalgadokdcgnaa
set_option maxRecDepth 100000
open Go.RowKit

theorem heldTo_mem {M : List C} {z : Nat} {i : Int} {k : Nat} {x : C} (h : x ∈ heldTo M z i k) : x ∈ M := by
  induction k with
  | zero => simp [heldTo] at h
  | succ k ih =>
    unfold heldTo at h
    split at h
    · rcases List.mem_append.1 h with h | h
      · exact ih h
      · rw [Option.mem_toList] at h
        exact List.mem_of_getElem? h
    · exact ih h
/-- How many columns hold one of the first I sectors. -/
def cnt (M : List C) (z n : Nat) : Nat → Nat
  | 0 => 0
  | I + 1 => cnt M z n I + (heldTo M z (I : Int) n).length
theorem cnt_succ (M : List C) (z n : Nat) (hn : n < M.length) (I : Nat) : cnt M z (n + 1) I = cnt M z n I + (if n % z < I then 1 else 0) := by
  induction I with
  | zero => simp [cnt]
  | succ I ih =>
    rw [cnt, cnt, ih]
    by_cases e : n % z = I
    · rw [heldTo_yes (by rw [e]) ⟨hn, rfl⟩, List.length_append, if_neg (by omega), if_pos (by omega)]
      simp
      omega
    · rw [heldTo_no (by omega)]
      by_cases h : n % z < I
      · rw [if_pos h, if_pos (by omega)]; omega
      · rw [if_neg h, if_neg (by omega)]; omega
theorem cnt_all (M : List C) (z : Nat) (hz : 0 < z) (n : Nat) (hn : n ≤ M.length) : cnt M z n z = n := by
  induction n with
  | zero =>
    have : ∀ I, cnt M z 0 I = 0 := fun I => by
      induction I with
      | zero => rfl
      | succ I ih => rw [cnt, ih]; rfl
    exact this z
  | succ n ih => rw [cnt_succ M z n hn z, ih (by omega), if_pos (Nat.mod_lt _ hz)]
theorem cnt_mono (M : List C) (z n I J : Nat) (h : I ≤ J) : cnt M z n I ≤ cnt M z n J := by
  induction J with
  | zero => obtain rfl : I = 0 := by omega
            exact Nat.le_refl _
  | succ J ih =>
    by_cases e : I = J + 1
    · subst e; exact Nat.le_refl _
    · have := ih (by omega)
      rw [cnt]; omega
theorem heldTo_grow (M : List C) (z : Nat) (i : Int) (k n : Nat) (h : k ≤ n) : (heldTo M z i k).length ≤ (heldTo M z i n).length := by
  induction n with
  | zero => obtain rfl : k = 0 := by omega
            exact Nat.le_refl _
  | succ n ih =>
    by_cases e : k = n + 1
    · subst e; exact Nat.le_refl _
    · have := ih (by omega)
      have h2 : (heldTo M z i n).length ≤ (heldTo M z i (n + 1)).length := by
        conv => rhs; rw [heldTo]
        split
        · rw [List.length_append]; omega
        · omega
      omega
theorem held_some (M : List C) (z i : Nat) (hi : i < z) (hM : z ≤ M.length) : 0 < (heldTo M z (i : Int) M.length).length := by
  have h1 : heldTo M z (i : Int) (i + 1) = heldTo M z (i : Int) i ++ [M[i]'(by omega)] := heldTo_yes (by rw [Nat.mod_eq_of_lt hi]) ⟨by omega, rfl⟩
  have h2 := heldTo_grow M z (i : Int) (i + 1) M.length (by omega)
  rw [h1, List.length_append] at h2
  simp at h2
  omega
theorem held_none (M : List C) (z : Nat) (hz : 0 < z) (i : Int) (hi : i < 0 ∨ (z : Int) ≤ i) (n : Nat) : heldTo M z i n = [] := by
  induction n with
  | zero => rfl
  | succ n ih =>
    rw [heldTo_no (by have := Nat.mod_lt n hz; omega), ih]

theorem datL_app (a b : List C) : datL (a ++ b) = datL a ++ datL b := List.filter_append ..
theorem datL_mir (f t : Int) (u z : Nat) (hz : 0 < z) : datL (mirL f t u z) = mirL f t u z := List.filter_eq_self.2 fun x hx => by
  obtain ⟨j, hj, rfl⟩ := List.getElem_of_mem hx
  rw [mirL_get f t z hz u j hj]
  rfl
theorem datL_par (f : Int) (t u z : Nat) : (datL (parTo f t u z)).length = z := by
  induction z with
  | zero => rfl
  | succ k ih =>
    unfold parTo
    split
    · rw [datL_app, datL_app, List.length_append, List.length_append, ih]; rfl
    · rw [datL_app, List.length_append, ih]; rfl
theorem Blk.datas {l : List (Int × Int)} {s : Int} {k t z : Nat} (h : Blk l s k t z) : z ≤ (datL (colsOf l k t z)).length := by
  have hk := h.hk
  obtain ⟨kk, u, hlk, hok⟩ : ∃ kk u, l[k] = (kk, u) ∧ okG (kk, u) = true := ⟨l[k].1, l[k].2, rfl, h.right.all k hk⟩
  unfold colsOf
  rw [getD_at hk, hlk]
  unfold colsG
  split
  · rw [datL_mir _ _ _ _ h.z1, mirL_len]
    have h1 : 1 ≤ u.toNat := by have := okG_wide hok; dsimp only at this; omega
    have h2 : 1 * z ≤ u.toNat * z := Nat.mul_le_mul_right z h1
    show z ≤ u.toNat * z
    omega
  · rw [datL_par]; exact Nat.le_refl _
theorem dats_pars (L : List C) : (datL L).length + L.countP (fun x => x.par) = L.length := by
  induction L with
  | nil => rfl
  | cons x r ih =>
    unfold datL at ih ⊢
    cases h : x.par with
    | true => simp [h]; omega
    | false => simp [h]; omega
end Go.Proofs.Ytpalgadokdcgnaa

/- The rows of a block's columns. -/
namespace Go.Proofs.Ytpalgadokdcgnaa
set_option maxRecDepth 100000
open Go.RowKit

/-- Row and parity of a column. -/
def rp (c : C) : Int × Bool := (c.row, c.par)
theorem parTo_shape (f : Int) (t u z : Nat) : (parTo f t u z).map rp = (parTo 0 0 u z).map rp := by
  induction z with
  | zero => rfl
  | succ k ih => simp only [parTo]; split <;> simp [ih, rp, colP]
def rowsN (u z : Nat) : Nat := (z - 1) / (u - 1) + 1
theorem par_rows : ∀ u : Nat, u < 9 → 3 ≤ u → ∀ z : Nat, z < 5 → 1 ≤ z →
    (∀ x ∈ (parTo 0 0 u z).map rp, 0 ≤ x.1 ∧ x.1 < (rowsN u z : Int)) ∧ (∃ x ∈ (parTo 0 0 u z).map rp, x.1 = (rowsN u z : Int) - 1) ∧
    (∀ r : Nat, r < rowsN u z → ((parTo 0 0 u z).map rp).countP (fun x => decide (x.1 = (r : Int)) && x.2) = 1) ∧
    (∀ i : Nat, i < 6 → ∀ j : Nat, j < 6 → i < j → ∀ x ∈ ((parTo 0 0 u z).map rp)[i]?, ∀ y ∈ ((parTo 0 0 u z).map rp)[j]?, x.1 = y.1 → j < i + u) ∧ rowsN u z ≤ 4 := by
  intro u h9 h3 z h5 h1
  rcases (show u = 3 ∨ u = 4 ∨ u = 5 ∨ u = 6 ∨ u = 7 ∨ u = 8 by omega) with rfl | rfl | rfl | rfl | rfl | rfl <;> rcases (show z = 1 ∨ z = 2 ∨ z = 3 ∨ z = 4 by omega) with rfl | rfl | rfl | rfl <;> decide

/-- What is known of a block's rows. -/
structure Rowed (kk : Int) (u z : Nat) (L : List C) (R : Nat) : Prop where
  few : R ≤ 4
  in_ : ∀ j (h : j < L.length), 0 ≤ L[j].row ∧ L[j].row < R
  last : ∃ j, ∃ h : j < L.length, L[j].row = (R : Int) - 1
  pars : ∀ r : Nat, r < R → (L.countP (fun x => decide (x.row = (r : Int)) && x.par) : Int) = kk
  devs : ∀ i j (hi : i < L.length) (hj : j < L.length), i < j → L[i].row = L[j].row → L[i].dev ≠ L[j].dev
  datas : (datL L).length = if kk = 0 then z * u else z
  mir : kk = 0 → R = z
theorem rowed (f : Int) (kk : Int) (u t z : Nat) (hok : okG (kk, (u : Int)) = true) (z1 : 1 ≤ z) (z4 : z ≤ 4) : ∃ R, Rowed kk u z (colsG f (kk, (u : Int)) t z) R := by
  rcases okG_cases hok with ⟨rfl, u1, u8⟩ | ⟨rfl, u1, u8⟩
  · have e : colsG f (0, (u : Int)) t z = mirL f t u z := by unfold colsG; rw [if_pos rfl]; simp
    rw [e]
    have hl := mirL_len f t u z
    have hzp : 0 < z := by omega
    have hg := mirL_get f t z hzp u
    have hmod := fun j => Nat.mod_lt j hzp
    have h1 : 1 * z ≤ u * z := Nat.mul_le_mul_right z (by omega)
    refine ⟨z, z4, fun j h => ?_, ⟨z - 1, by omega, ?_⟩, fun r hr => ?_, fun i j hi hj hij => ?_, ?_, fun _ => rfl⟩
    · rw [hg j h]; dsimp only; have := hmod j; omega
    · rw [hg (z - 1) (by omega)]; dsimp only; rw [Nat.mod_eq_of_lt (by omega)]; omega
    · have h0 : (mirL f t u z).countP (fun x => decide (x.row = (r : Int)) && x.par) = 0 := by
        rw [List.countP_eq_zero]
        intro x hx
        obtain ⟨j, hj, rfl⟩ := List.getElem_of_mem hx
        rw [hg j hj]
        simp
      rw [h0]; rfl
    · rw [hg i hi, hg j hj]
      dsimp only
      intro e1 e2
      have e3 : i % z = j % z := by omega
      have e4 : i / z = j / z := by omega
      have h2 := Nat.div_add_mod i z
      have h3 := Nat.div_add_mod j z
      rw [e3, e4] at h2
      omega
    · rw [datL_mir _ _ _ _ hzp, hl, if_pos rfl, Nat.mul_comm]
  · have e : colsG f (1, (u : Int)) t z = parTo f t u z := by unfold colsG; rw [if_neg Int.one_ne_zero]; simp
    rw [e]
    obtain ⟨p1, p2, p3, p4, p5⟩ := par_rows u (by omega) (by omega) z (by omega) z1
    rw [← parTo_shape f t u z] at p1 p2 p3 p4
    have hl6 : (parTo f t u z).length ≤ 6 := by rw [parTo_len0]; exact (par_fits u (by omega) (by omega) z (by omega) z1).2.2
    refine ⟨rowsN u z, p5, fun j h => ?_, ?_, fun r hr => ?_, fun i j hi hj hij => ?_, ?_, fun h => absurd h Int.one_ne_zero⟩
    · exact p1 (rp (parTo f t u z)[j]) (List.mem_map.2 ⟨_, List.getElem_mem h, rfl⟩)
    · obtain ⟨x, hx, hr⟩ := p2
      obtain ⟨c, hc, rfl⟩ := List.mem_map.1 hx
      obtain ⟨j, hj, rfl⟩ := List.getElem_of_mem hc
      exact ⟨j, hj, hr⟩
    · have h1 := p3 r hr
      rw [List.countP_map] at h1
      have h2 : (parTo f t u z).countP (fun x => decide (x.row = (r : Int)) && x.par) = 1 := h1
      rw [h2]; rfl
    · intro er ed
      have h1 := p4 i (by omega) j (by omega) hij (rp (parTo f t u z)[i]) (by rw [List.getElem?_map, List.getElem?_eq_getElem hi]; rfl) (rp (parTo f t u z)[j]) (by rw [List.getElem?_map, List.getElem?_eq_getElem hj]; rfl) er
      obtain ⟨r1, b1, e1⟩ := parTo_get f t u z i hi
      obtain ⟨r2, b2, e2⟩ := parTo_get f t u z j hj
      rw [e1, e2] at ed
      have ed' : f + (((t + i) % u : Nat) : Int) = f + (((t + j) % u : Nat) : Int) := ed
      have e3 : (t + i) % u = (t + j) % u := by omega
      have h2 := Nat.div_add_mod (t + i) u
      have h3 := Nat.div_add_mod (t + j) u
      rw [e3] at h2
      have h4 : u * ((t + j) / u) = u * ((t + i) / u) + (j - i) := by omega
      rcases Nat.lt_or_ge ((t + i) / u) ((t + j) / u) with h5 | h5
      · have h6 : u * ((t + i) / u + 1) ≤ u * ((t + j) / u) := Nat.mul_le_mul_left u h5
        rw [Nat.mul_add, Nat.mul_one] at h6
        omega
      · have h6 : u * ((t + j) / u) ≤ u * ((t + i) / u) := Nat.mul_le_mul_left u h5
        omega
    · rw [datL_par, if_neg Int.one_ne_zero]
theorem Blk.rowed {l : List (Int × Int)} {s : Int} {k t z : Nat} (h : Blk l s k t z) {kk : Int} {u : Nat} (hl : l[k]'h.hk = (kk, (u : Int))) : ∃ R, Rowed kk u z (colsOf l k t z) R := by
  have hk := h.hk
  have hok := h.right.all k hk
  unfold colsOf
  rw [getD_at hk, hl]
  rw [hl] at hok
  exact Proofs.Ytpalgadokdcgnaa.rowed _ _ _ _ _ hok h.z1 h.z4
/-- Counting row by row. -/
theorem count_rows (L : List C) (r : Nat) : L.countP (fun x => decide (x.row < ((r + 1 : Nat) : Int)) && !x.par) = L.countP (fun x => decide (x.row < (r : Int)) && !x.par) + L.countP (fun x => decide (x.row = (r : Int)) && !x.par) := by
  induction L with
  | nil => rfl
  | cons x q ih =>
    simp only [List.countP_cons, ih]
    cases hp : x.par with
    | true => simp
    | false =>
      by_cases h1 : x.row < (r : Int)
      · have h2 : x.row < (r : Int) + 1 := by omega
        have h3 : ¬ x.row = (r : Int) := by omega
        simp [h1, h2, h3]
        omega
      · by_cases h3 : x.row = (r : Int)
        · have h2 : (r : Int) < (r : Int) + 1 := by omega
          simp [h3, h2]
          omega
        · have h2 : ¬ x.row < ((r + 1 : Nat) : Int) := by omega
          have h4 : ¬ x.row < (r : Int) + 1 := by omega
          simp [h1, h3, h4]
theorem count_none (L : List C) (h : ∀ j (h : j < L.length), 0 ≤ L[j].row) : L.countP (fun x => decide (x.row < ((0 : Nat) : Int)) && !x.par) = 0 := by
  rw [List.countP_eq_zero]
  intro x hx
  obtain ⟨j, hj, rfl⟩ := List.getElem_of_mem hx
  have := h j hj
  simp
  omega
theorem count_all (L : List C) (R : Nat) (h : ∀ j (h : j < L.length), L[j].row < (R : Int)) : L.countP (fun x => decide (x.row < (R : Int)) && !x.par) = (datL L).length := by
  unfold datL
  rw [← List.countP_eq_length_filter]
  refine List.countP_congr fun x hx => ?_
  obtain ⟨j, hj, rfl⟩ := List.getElem_of_mem hx
  simp [h j hj]
end Go.Proofs.Ytpalgadokdcgnaa

/- Plain facts on columns and their parity (no program is named here). -/
namespace Go.Proofs.Ytpalgadokdcgnaa.M

/-- The byte at place j that columns come to. -/
def colx (l : List ByteArray) (j : Nat) : UInt8 := l.foldl (fun b s => b ^^^ s.data.toList.getD j 0) 0
/-- How long the first column is. -/
def wide (l : List ByteArray) : Nat := (l.headD ⟨#[]⟩).size
/-- Are columns even? -/
def evenL (l : List ByteArray) : Bool := l.all fun s => s.size == wide l
/-- Is there a parity? -/
def okL (l : List ByteArray) : Bool := !l.isEmpty && evenL l
/-- The bytes of a parity, n of them. -/
def parL (l : List ByteArray) (n : Nat) : List UInt8 := (List.range n).map (colx l)
/-- The parity. -/
def parB (l : List ByteArray) : ByteArray := ⟨(parL l (wide l)).toArray⟩
/-- What Make answers: the text, and the error. -/
def mkB (l : List ByteArray) : ByteArray := if okL l then parB l else ⟨#[]⟩
def mkE (l : List ByteArray) : Int := if okL l then 0 else 1
/-- Are all bytes zero? -/
def blankB (s : ByteArray) : Bool := s.data.toList.all (· == 0)

theorem sizeL (s : ByteArray) : s.size = s.data.toList.length := by rw [Array.length_toList]; rfl
theorem extL {s t : ByteArray} (h : s.data.toList = t.data.toList) : s = t := by
  apply ByteArray.ext; exact Array.ext' h

theorem foldx (l : List ByteArray) (j : Nat) : ∀ b : UInt8, l.foldl (fun b s => b ^^^ s.data.toList.getD j 0) b = b ^^^ colx l j := by
  unfold colx
  induction l with
  | nil => intro b; simp
  | cons s l ih => intro b; rw [List.foldl_cons, ih, List.foldl_cons, ih (0 ^^^ _), UInt8.zero_xor, UInt8.xor_assoc]
theorem colx_append (l m : List ByteArray) (j : Nat) : colx (l ++ m) j = colx l j ^^^ colx m j := by
  rw [colx, List.foldl_append, foldx]; rfl
theorem colx_one (s : ByteArray) (j : Nat) : colx [s] j = s.data.toList.getD j 0 := by simp [colx]
theorem colx_nil (j : Nat) : colx [] j = 0 := rfl
theorem colx_cons (s : ByteArray) (l : List ByteArray) (j : Nat) : colx (s :: l) j = s.data.toList.getD j 0 ^^^ colx l j := by
  rw [show s :: l = [s] ++ l from rfl, colx_append, colx_one]

theorem parL_length (l : List ByteArray) (n : Nat) : (parL l n).length = n := by simp [parL]
theorem parB_list (l : List ByteArray) : (parB l).data.toList = parL l (wide l) := by simp [parB]
theorem parB_size (l : List ByteArray) : (parB l).size = wide l := by rw [sizeL, parB_list, parL_length]
theorem parB_at (l : List ByteArray) (j : Nat) (h : j < wide l) : (parB l).data.toList.getD j 0 = colx l j := by
  rw [parB_list, parL, List.getD_eq_getElem?_getD, List.getElem?_map, List.getElem?_range h]; rfl
theorem parL_ext {l m : List ByteArray} {n : Nat} (h : ∀ j, j < n → colx l j = colx m j) : parL l n = parL m n := by
  apply List.map_congr_left
  intro j hj
  exact h j (List.mem_range.1 hj)
theorem parB_ext {l m : List ByteArray} (hn : wide l = wide m) (h : ∀ j, j < wide l → colx l j = colx m j) : parB l = parB m := by
  apply extL
  rw [parB_list, parB_list, ← hn]
  exact parL_ext h
/-- A parity is told by its bytes. -/
theorem parB_eq {l : List ByteArray} {s : ByteArray} (hn : s.size = wide l) (h : ∀ j, j < wide l → colx l j = s.data.toList.getD j 0) : parB l = s := by
  apply extL
  rw [parB_list]
  apply List.ext_getElem
  · rw [parL_length, ← hn, sizeL]
  · intro j h1 h2
    rw [parL_length] at h1
    have := h j h1
    rw [List.getD_eq_getElem?_getD, List.getElem?_eq_getElem h2] at this
    simp [parL, this]
/-- One column more. -/
theorem parL_more (l : List ByteArray) (s : ByteArray) : List.zipWith (· ^^^ ·) (parL l s.size) s.data.toList = parL (l ++ [s]) s.size := by
  apply List.ext_getElem
  · simp [parL_length]
  · intro j h1 h2
    rw [parL_length] at h2
    have hj : j < s.data.toList.length := by rw [← sizeL]; exact h2
    have hg : s.data.toList.getD j 0 = s.data.toList[j] := by rw [List.getD_eq_getElem?_getD, List.getElem?_eq_getElem hj]; rfl
    rw [List.getElem_zipWith]
    simp only [parL, List.getElem_map, List.getElem_range]
    rw [colx_append, colx_one, hg]
theorem parL_first (s : ByteArray) : parL [s] s.size = s.data.toList := by
  apply List.ext_getElem
  · rw [parL_length, sizeL]
  · intro j h1 h2
    simp only [parL, List.getElem_map, List.getElem_range]
    rw [colx_one, List.getD_eq_getElem?_getD, List.getElem?_eq_getElem h2]; rfl

theorem even_iff {l : List ByteArray} : evenL l = true ↔ ∀ s ∈ l, s.size = wide l := by
  simp [evenL]
theorem even_of {l : List ByteArray} {n : Nat} (h : ∀ s ∈ l, s.size = n) : evenL l = true := by
  rw [even_iff]
  intro s hs
  cases l with
  | nil => cases hs
  | cons t r =>
    rw [h s hs]
    exact (h t (List.mem_cons_self ..)).symm
theorem wide_of {l : List ByteArray} {n : Nat} (h : ∀ s ∈ l, s.size = n) (hl : l ≠ []) : wide l = n := by
  cases l with
  | nil => exact absurd rfl hl
  | cons t r => exact h t (List.mem_cons_self ..)
theorem ok_iff {l : List ByteArray} : okL l = true ↔ l ≠ [] ∧ evenL l = true := by
  cases l <;> simp [okL]
theorem ok_of {l : List ByteArray} {n : Nat} (h : ∀ s ∈ l, s.size = n) (hl : l ≠ []) : okL l = true := ok_iff.2 ⟨hl, even_of h⟩
theorem ok_size {l : List ByteArray} (h : okL l = true) : ∀ s ∈ l, s.size = wide l := even_iff.1 (ok_iff.1 h).2
theorem mk_ok {l : List ByteArray} (h : okL l = true) : mkB l = parB l ∧ mkE l = 0 := by simp [mkB, mkE, h]
theorem mk_no {l : List ByteArray} (h : okL l = false) : mkB l = ⟨#[]⟩ ∧ mkE l = 1 := by simp [mkB, mkE, h]

theorem par_small {l : List ByteArray} {N : Nat} (h : okL l = true) (hs : ∀ s ∈ l, s.size ≤ N) : (parB l).size ≤ N := by
  rw [parB_size]
  cases l with
  | nil => exact absurd rfl (ok_iff.1 h).1
  | cons s r => exact hs s (List.mem_cons_self ..)
/-- Columns, and their parity behind them. -/
theorem with_par {l : List ByteArray} (h : okL l = true) : okL (l ++ [parB l]) = true ∧ wide (l ++ [parB l]) = wide l ∧ ∀ j, j < wide l → colx (l ++ [parB l]) j = 0 := by
  have hs : ∀ s ∈ l ++ [parB l], s.size = wide l := by
    intro s hm
    rcases List.mem_append.1 hm with h1 | h1
    · exact ok_size h s h1
    · rw [List.mem_singleton.1 h1, parB_size]
  refine ⟨ok_of hs (by simp), wide_of hs (by simp), fun j hj => ?_⟩
  rw [colx_append, colx_one, parB_at l j hj, UInt8.xor_self]
theorem blank_of {l : List ByteArray} (h : ∀ j, j < wide l → colx l j = 0) : blankB (parB l) = true := by
  rw [blankB, parB_list, List.all_eq_true]
  intro b hb
  obtain ⟨j, hj, rfl⟩ := List.mem_map.1 hb
  rw [h j (List.mem_range.1 hj)]; rfl
theorem par_single (s : ByteArray) : parB [s] = s := parB_eq rfl fun j _ => colx_one s j
/-- Which is left out of columns that come to zero is what the others come to. -/
theorem colx_erase (l : List ByteArray) (k : Nat) (h : k < l.length) (j : Nat) : colx (l.eraseIdx k) j = colx l j ^^^ (l[k]).data.toList.getD j 0 := by
  induction l generalizing k with
  | nil => exact absurd h (Nat.not_lt_zero _)
  | cons s l ih =>
    cases k with
    | zero =>
      rw [List.eraseIdx_zero, List.tail_cons, colx_cons, List.getElem_cons_zero, UInt8.xor_comm (s.data.toList.getD j 0), UInt8.xor_assoc, UInt8.xor_self, UInt8.xor_zero]
    | succ k =>
      rw [List.eraseIdx_cons_succ, colx_cons, ih k (by simpa using h), colx_cons, List.getElem_cons_succ, UInt8.xor_assoc]
theorem again_par {l : List ByteArray} (h : okL l = true) (k : Nat) (hk : k < (l ++ [parB l]).length) : okL ((l ++ [parB l]).eraseIdx k) = true ∧ parB ((l ++ [parB l]).eraseIdx k) = (l ++ [parB l])[k] := by
  obtain ⟨h1, h2, h3⟩ := with_par h
  have hs := ok_size h1
  rw [h2] at hs
  have hs' : ∀ s ∈ (l ++ [parB l]).eraseIdx k, s.size = wide l := fun s hm => hs s (List.mem_of_mem_eraseIdx hm)
  have hl : (l ++ [parB l]).eraseIdx k ≠ [] := by
    intro e
    have h4 := congrArg List.length e
    have h5 : 0 < l.length := List.length_pos_iff.2 (ok_iff.1 h).1
    rw [List.length_eraseIdx_of_lt hk, List.length_append, List.length_nil] at h4
    simp only [List.length_cons, List.length_nil] at h4
    omega
  refine ⟨ok_of hs' hl, parB_eq ?_ fun j hj => ?_⟩
  · rw [wide_of hs' hl]; exact hs _ (List.getElem_mem _)
  · rw [wide_of hs' hl] at hj
    rw [colx_erase _ _ hk, h3 j hj, UInt8.zero_xor]
theorem set_erase {α : Type} (l : List α) (k : Nat) (a : α) : (l.set k a).eraseIdx k = l.eraseIdx k := by
  induction l generalizing k with
  | nil => simp
  | cons s l ih => cases k with
    | zero => simp
    | succ k => simp [ih]
/-- A column changed. -/
theorem colx_set (l : List ByteArray) (k : Nat) (h : k < l.length) (s : ByteArray) (j : Nat) : colx (l.set k s) j = colx l j ^^^ (l[k]).data.toList.getD j 0 ^^^ s.data.toList.getD j 0 := by
  have h1 := colx_erase (l.set k s) k (by simpa using h) j
  rw [set_erase, colx_erase l k h, List.getElem_set_self] at h1
  rw [h1, UInt8.xor_assoc, UInt8.xor_self, UInt8.xor_zero]
/-- Two columns changed to each other's. -/
theorem colx_swap (l : List ByteArray) (x y : Nat) (hx : x < l.length) (hy : y < l.length) (j : Nat) : colx ((l.set x l[y]).set y l[x]) j = colx l j := by
  rw [colx_set _ y (by simpa using hy), colx_set l x hx]
  by_cases e : x = y
  · subst e
    rw [List.getElem_set_self]
    simp only [UInt8.xor_assoc, UInt8.xor_self, UInt8.xor_zero]
  · rw [List.getElem_set_ne e]
    generalize (l[x]).data.toList.getD j 0 = a
    generalize (l[y]).data.toList.getD j 0 = b
    rw [UInt8.xor_assoc (colx l j ^^^ a), UInt8.xor_self, UInt8.xor_zero, UInt8.xor_assoc, UInt8.xor_self, UInt8.xor_zero]
theorem swap_mem {α : Type} (l : List α) (x y : Nat) (hx : x < l.length) (hy : y < l.length) : ∀ s ∈ (l.set x l[y]).set y l[x], s ∈ l := by
  intro s hm
  rcases List.mem_or_eq_of_mem_set hm with h1 | h1
  · rcases List.mem_or_eq_of_mem_set h1 with h2 | h2
    · exact h2
    · rw [h2]; exact List.getElem_mem _
  · rw [h1]; exact List.getElem_mem _
theorem swap_par {l : List ByteArray} (h : okL l = true) (x y : Nat) (hx : x < l.length) (hy : y < l.length) : okL ((l.set x l[y]).set y l[x]) = true ∧ parB ((l.set x l[y]).set y l[x]) = parB l := by
  have hs := ok_size h
  have hs' : ∀ s ∈ (l.set x l[y]).set y l[x], s.size = wide l := by
    intro s hm
    rcases List.mem_or_eq_of_mem_set hm with h1 | h1
    · rcases List.mem_or_eq_of_mem_set h1 with h2 | h2
      · exact hs s h2
      · rw [h2]; exact hs _ (List.getElem_mem _)
    · rw [h1]; exact hs _ (List.getElem_mem _)
  have hl : (l.set x l[y]).set y l[x] ≠ [] := by
    intro e
    have := congrArg List.length e
    simp at this
    exact (ok_iff.1 h).1 this
  refine ⟨ok_of hs' hl, parB_ext (wide_of hs' hl) fun j _ => colx_swap l x y hx hy j⟩
theorem twice_par {l : List ByteArray} (h : okL l = true) : okL (l ++ l) = true ∧ blankB (parB (l ++ l)) = true ∧ (parB (l ++ l)).size = (parB l).size := by
  have hs := ok_size h
  have hs' : ∀ s ∈ l ++ l, s.size = wide l := fun s hm => by rcases List.mem_append.1 hm with h1 | h1 <;> exact hs s h1
  have hl : l ++ l ≠ [] := by simpa using (ok_iff.1 h).1
  refine ⟨ok_of hs' hl, blank_of fun j _ => by rw [colx_append, UInt8.xor_self], ?_⟩
  rw [parB_size, parB_size, wide_of hs' hl]
/-- n zero bytes. -/
def zeroB (n : Nat) : ByteArray := ⟨(List.replicate n (0 : UInt8)).toArray⟩
theorem sums_par {l m : List ByteArray} (hl : l ≠ []) (hm : m ≠ []) (h : okL (l ++ m) = true) :
    okL l = true ∧ okL m = true ∧ okL [parB l, parB m] = true ∧ parB [parB l, parB m] = parB (l ++ m) ∧ okL (l ++ m ++ [zeroB (parB (l ++ m)).size]) = true ∧ parB (l ++ m ++ [zeroB (parB (l ++ m)).size]) = parB (l ++ m) := by
  have hs := ok_size h
  generalize hn : wide (l ++ m) = n at hs
  have hsl : ∀ s ∈ l, s.size = n := fun s hm => hs s (List.mem_append_left _ hm)
  have hsm : ∀ s ∈ m, s.size = n := fun s hm => hs s (List.mem_append_right _ hm)
  have hwl := wide_of hsl hl
  have hwm := wide_of hsm hm
  have hsp : ∀ s ∈ [parB l, parB m], s.size = n := by
    intro s hm
    simp only [List.mem_cons, List.not_mem_nil, or_false] at hm
    rcases hm with rfl | rfl
    · rw [parB_size, hwl]
    · rw [parB_size, hwm]
  have hz : (zeroB (parB (l ++ m)).size).size = n := by
    rw [sizeL]; simp [zeroB, parB_size, hn]
  have hsz : ∀ s ∈ l ++ m ++ [zeroB (parB (l ++ m)).size], s.size = n := by
    intro s hm
    rcases List.mem_append.1 hm with h1 | h1
    · exact hs s h1
    · rw [List.mem_singleton.1 h1, hz]
  have hwp := wide_of hsp (by simp)
  have hwz := wide_of hsz (by simp)
  refine ⟨ok_of hsl hl, ok_of hsm hm, ok_of hsp (by simp), parB_ext (by rw [hwp, hn]) fun j hj => ?_, ok_of hsz (by simp), parB_ext (by rw [hwz, hn]) fun j hj => ?_⟩
  · rw [hwp] at hj
    rw [show [parB l, parB m] = [parB l] ++ [parB m] from rfl, colx_append, colx_one, colx_one, parB_at l j (by rw [hwl]; exact hj), parB_at m j (by rw [hwm]; exact hj), colx_append]
  · rw [colx_append (l ++ m), colx_one]
    have : (zeroB (parB (l ++ m)).size).data.toList.getD j 0 = 0 := by
      simp [zeroB, List.getD_eq_getElem?_getD, List.getElem?_replicate]
      split <;> rfl
    rw [this, UInt8.xor_zero]
end Go.Proofs.Ytpalgadokdcgnaa.M

/- Blocks as columns, and what columns may come to: plain facts (no program is named here). -/
namespace Go.Proofs.Ytpalgadokdcgnaa
set_option maxRecDepth 100000
open M

/-- The i-th sector of a text. -/
def sect (s : ByteArray) (i : Nat) : ByteArray := s.extract (i * 64) ((i + 1) * 64)
theorem sect_size {s : ByteArray} {i z : Nat} (hs : s.size = z * 64) (hi : i < z) : (sect s i).size = 64 := by
  unfold sect; rw [ByteArray.size_extract]; omega
/-- Texts one behind the other. -/
def joinB (l : List ByteArray) : ByteArray := ⟨(l.flatMap fun s => s.data.toList).toArray⟩
theorem joinB_list (l : List ByteArray) : (joinB l).data.toList = l.flatMap fun s => s.data.toList := by simp [joinB]
theorem joinB_nil : joinB [] = ⟨#[]⟩ := rfl
theorem joinB_one (s : ByteArray) : joinB [s] = s := extL (by rw [joinB_list]; simp)
theorem joinB_snoc (l : List ByteArray) (s : ByteArray) : joinB l ++ s = joinB (l ++ [s]) := extL (by rw [joinB_list, ByteArray.data_append, Array.toList_append, joinB_list]; simp)
theorem joinB_size {l : List ByteArray} {n : Nat} (h : ∀ s ∈ l, s.size = n) : (joinB l).size = l.length * n := by
  rw [sizeL, joinB_list]
  induction l with
  | nil => simp
  | cons s r ih =>
    rw [List.flatMap_cons, List.length_append, ih fun t ht => h t (List.mem_cons_of_mem _ ht), List.length_cons, Nat.add_mul, ← sizeL, h s List.mem_cons_self]; omega
theorem sect_list (s : ByteArray) (i : Nat) : (sect s i).data.toList = (s.data.toList.drop (i * 64)).take 64 := by
  unfold sect
  rw [ByteArray.data_extract, Array.toList_extract, List.extract_eq_take_drop]
  congr 1
  omega
/-- A text's sectors, one behind the other, are it. -/
theorem join_sect {s : ByteArray} {z : Nat} (hs : s.size = z * 64) : joinB ((List.range z).map (sect s)) = s := by
  have key : ∀ k, ((List.range k).map (sect s)).flatMap (fun t => t.data.toList) = s.data.toList.take (k * 64) := by
    intro k
    induction k with
    | zero => simp
    | succ k ih =>
      rw [List.range_succ, List.map_append, List.flatMap_append, ih]
      simp only [List.map_cons, List.map_nil, List.flatMap_cons, List.flatMap_nil, List.append_nil]
      rw [sect_list, show (k + 1) * 64 = k * 64 + 64 by omega, List.take_add]
  apply extL
  rw [joinB_list, key, List.take_of_length_le (by rw [← sizeL, hs]; omega)]

/-- Data columns among the first k. -/
def dct (L : List C) (k : Nat) : Nat := (L.take k).countP fun c => !c.par
theorem dct_succ {L : List C} {k : Nat} (h : k < L.length) : dct L (k + 1) = dct L k + if L[k].par then 0 else 1 := by
  unfold dct
  rw [List.take_succ_eq_append_getElem h, List.countP_append]
  cases hp : L[k].par <;> simp [hp]
theorem dct_le (L : List C) (k : Nat) : dct L k ≤ k := Nat.le_trans List.countP_le_length (by rw [List.length_take]; omega)
theorem dct_all (L : List C) : dct L L.length = (datL L).length := by
  unfold dct datL
  rw [List.take_length, List.countP_eq_length_filter]
theorem dct_mono {L : List C} {j k : Nat} (h : j ≤ k) : dct L j ≤ dct L k := by
  unfold dct
  exact List.Sublist.countP_le (List.take_sublist_take_left h)
theorem dct_lt {L : List C} {k : Nat} (h : k < L.length) (hp : L[k].par = false) : dct L k < (datL L).length := by
  have h1 := dct_succ h
  rw [hp] at h1
  have h2 := dct_mono (L := L) (show k + 1 ≤ L.length from h)
  rw [dct_all] at h2
  simp at h1
  omega

/-- The places below n where q holds. -/
def idx (q : Nat → Bool) (n : Nat) : List Nat := (List.range n).filter q
theorem idx_succ (q : Nat → Bool) (n : Nat) : idx q (n + 1) = idx q n ++ if q n then [n] else [] := by
  unfold idx
  rw [List.range_succ, List.filter_append]
  cases h : q n <;> simp [h]
theorem idx_yes {q : Nat → Bool} {n : Nat} (h : q n = true) : idx q (n + 1) = idx q n ++ [n] := by rw [idx_succ, h]; rfl
theorem idx_no {q : Nat → Bool} {n : Nat} (h : q n = false) : idx q (n + 1) = idx q n := by rw [idx_succ, h]; simp
theorem idx_mem {q : Nat → Bool} {n j : Nat} : j ∈ idx q n ↔ j < n ∧ q j = true := by
  unfold idx; rw [List.mem_filter, List.mem_range]
theorem idx_le (q : Nat → Bool) (n : Nat) : (idx q n).length ≤ n := by
  unfold idx; exact Nat.le_trans (List.length_filter_le _ _) (by simp)
theorem idx_split {q : Nat → Bool} {a : Nat} (hq : q a = true) : ∀ n, a < n → ∃ r, idx q n = idx q a ++ a :: r ∧ ∀ j ∈ r, a < j ∧ j < n ∧ q j = true := by
  intro n
  induction n with
  | zero => intro h; omega
  | succ n ih =>
    intro h
    by_cases e : a = n
    · subst e
      exact ⟨[], idx_yes hq, fun j hj => by cases hj⟩
    · obtain ⟨r, hr, hm⟩ := ih (by omega)
      cases hn : q n with
      | true =>
        refine ⟨r ++ [n], by rw [idx_yes hn, hr]; simp, fun j hj => ?_⟩
        rcases List.mem_append.1 hj with h1 | h1
        · obtain ⟨h2, h3, h4⟩ := hm j h1; exact ⟨h2, by omega, h4⟩
        · rw [List.mem_singleton.1 h1]; exact ⟨by omega, by omega, hn⟩
      | false => exact ⟨r, by rw [idx_no hn, hr], fun j hj => by obtain ⟨h2, h3, h4⟩ := hm j hj; exact ⟨h2, by omega, h4⟩⟩
theorem idx_count {q : Nat → Bool} {p : C → Bool} (L : List C) (h : ∀ j (hj : j < L.length), q j = p L[j]) : ∀ k, k ≤ L.length → (idx q k).length = (L.take k).countP p := by
  intro k
  induction k with
  | zero => intro _; simp [idx]
  | succ k ih =>
    intro hk
    rw [List.take_succ_eq_append_getElem (show k < L.length by omega), List.countP_append, idx_succ, List.length_append, ih (by omega), h k (by omega)]
    cases hp : p L[k] <;> simp [hp]

def parAt (L : List C) (j : Nat) : Bool := (L[j]?).any C.par
def rowAt (L : List C) (j : Nat) : Int := (L[j]?).elim 0 C.row
def devAt (L : List C) (j : Nat) : Int := (L[j]?).elim 0 C.dev
theorem parAt_eq {L : List C} {j : Nat} (h : j < L.length) : parAt L j = L[j].par := by unfold parAt; rw [List.getElem?_eq_getElem h]; rfl
theorem rowAt_eq {L : List C} {j : Nat} (h : j < L.length) : rowAt L j = L[j].row := by unfold rowAt; rw [List.getElem?_eq_getElem h]; rfl
theorem devAt_eq {L : List C} {j : Nat} (h : j < L.length) : devAt L j = L[j].dev := by unfold devAt; rw [List.getElem?_eq_getElem h]; rfl

/-- The texts of a row's data columns among the first k. -/
def rowD (L : List C) (f : Nat → ByteArray) (r : Int) (k : Nat) : List ByteArray := (idx (fun j => !parAt L j && rowAt L j == r) k).map fun j => f (dct L j)
theorem rowD_yes {L : List C} {f : Nat → ByteArray} {r : Int} {k : Nat} (h1 : parAt L k = false) (h2 : rowAt L k = r) : rowD L f r (k + 1) = rowD L f r k ++ [f (dct L k)] := by
  unfold rowD; rw [idx_yes (by simp [h1, h2]), List.map_append]; rfl
theorem rowD_no {L : List C} {f : Nat → ByteArray} {r : Int} {k : Nat} (h : parAt L k = true ∨ rowAt L k ≠ r) : rowD L f r (k + 1) = rowD L f r k := by
  unfold rowD; rw [idx_no (by rcases h with h | h <;> simp [h])]
theorem rowD_len (L : List C) (f : Nat → ByteArray) (r : Int) (k : Nat) : (rowD L f r k).length ≤ k := by unfold rowD; rw [List.length_map]; exact idx_le _ _
/-- A column's text. -/
def encAt (L : List C) (f : Nat → ByteArray) (k : Nat) : ByteArray := if parAt L k then mkB (rowD L f (rowAt L k) L.length) else f (dct L k)
def encL (L : List C) (f : Nat → ByteArray) : List ByteArray := (List.range L.length).map (encAt L f)
theorem encL_len (L : List C) (f : Nat → ByteArray) : (encL L f).length = L.length := by simp [encL]
theorem encL_get (L : List C) (f : Nat → ByteArray) (j : Nat) (h : j < (encL L f).length) : (encL L f)[j] = encAt L f j := by simp [encL]
theorem encL_getD (L : List C) (f : Nat → ByteArray) (j : Nat) (h : j < L.length) : (encL L f).getD j ⟨#[]⟩ = encAt L f j := by
  rw [List.getD_eq_getElem?_getD, List.getElem?_eq_getElem (by rw [encL_len]; exact h), encL_get]; rfl

/-- What was read of a row's columns among the first k. -/
def rowG (L : List C) (G : List ByteArray) (r : Int) (k : Nat) : List ByteArray := (idx (fun j => rowAt L j == r) k).map fun j => G.getD j ⟨#[]⟩
theorem rowG_yes {L : List C} {G : List ByteArray} {r : Int} {k : Nat} (h : rowAt L k = r) : rowG L G r (k + 1) = rowG L G r k ++ [G.getD k ⟨#[]⟩] := by
  unfold rowG; rw [idx_yes (by simp [h]), List.map_append]; rfl
theorem rowG_no {L : List C} {G : List ByteArray} {r : Int} {k : Nat} (h : rowAt L k ≠ r) : rowG L G r (k + 1) = rowG L G r k := by
  unfold rowG; rw [idx_no (by simp [h])]
theorem rowG_len (L : List C) (G : List ByteArray) (r : Int) (k : Nat) : (rowG L G r k).length ≤ k := by unfold rowG; rw [List.length_map]; exact idx_le _ _
/-- A column made again by the others of its row. -/
def agn (L : List C) (G : List ByteArray) (a : Nat) : ByteArray := mkB ((rowG L G (rowAt L a) L.length).eraseIdx (rowG L G (rowAt L a) a).length)
/-- The data columns among the first k, a device's made again. -/
def wth (L : List C) (G : List ByteArray) (d : Int) (k : Nat) : List ByteArray := (idx (fun j => !parAt L j) k).map fun j => if devAt L j = d then agn L G j else G.getD j ⟨#[]⟩
theorem wth_par {L : List C} {G : List ByteArray} {d : Int} {k : Nat} (h : parAt L k = true) : wth L G d (k + 1) = wth L G d k := by
  unfold wth; rw [idx_no (by simp [h])]
theorem wth_data {L : List C} {G : List ByteArray} {d : Int} {k : Nat} (h : parAt L k = false) : wth L G d (k + 1) = wth L G d k ++ [if devAt L k = d then agn L G k else G.getD k ⟨#[]⟩] := by
  unfold wth; rw [idx_yes (by simp [h]), List.map_append]; rfl
theorem wth_len (L : List C) (G : List ByteArray) (d : Int) (k : Nat) : (wth L G d k).length ≤ k := by unfold wth; rw [List.length_map]; exact idx_le _ _
/-- Is one of the texts nothing? -/
def holeL (l : List ByteArray) : Bool := l.any fun s => s.size == 0
/-- A try, if all is there. -/
def tryOf (d : Int) (l : List ByteArray) : Option (Int × ByteArray) := if holeL l then none else some (d, joinB l)
def chunk (G : List ByteArray) (z d : Nat) : List ByteArray := (G.drop (d * z)).take z
/-- The tries of a Mirror's columns: u devices, z sectors each. -/
def triesM (L : List C) (G : List ByteArray) (u z : Nat) : List (Int × ByteArray) := (List.range u).filterMap fun d => tryOf (devAt L (d * z)) (chunk G z d)
/-- The tries of a Parity's columns. -/
def triesP (L : List C) (G : List ByteArray) (D : List Int) : List (Int × ByteArray) := D.filterMap fun d => tryOf d (wth L G d L.length)
end Go.Proofs.Ytpalgadokdcgnaa

/- Texts in memory: a slice of them that came in, or that is one's own; a row of bytes. -/
namespace Go.Proofs.Ytpalgadokdcgnaa
open Go.RowKit M

theorem early2 {w w1 w2 : World} (b1 : Below w.heap.size w w1) (b2 : Below w1.heap.size w1 w2) : Below w.heap.size w w2 := b1.trans (b2.mono b1.size)

/-- The slice value v is the texts l. -/
def Txt (w : World) (v : Value) (l : List ByteArray) : Prop :=
  ∃ a c, v = .slice a l.length c ∧ l.length ≤ c ∧ ∀ j (h : j < l.length), ∃ g o, a = some ⟨g, o, none⟩ ∧ g < w.heap.size ∧ w.cell? ⟨g, o + j, none⟩ = some (.string l[j])

theorem Txt.below {w w' : World} {v : Value} {l : List ByteArray} (h : Txt w v l) (hb : Below w.heap.size w w') : Txt w' v l := by
  obtain ⟨a, c, rfl, hc, hj⟩ := h
  refine ⟨a, c, rfl, hc, fun j h => ?_⟩
  obtain ⟨g, o, ha, hg, hcell⟩ := hj j h
  exact ⟨g, o, ha, Nat.lt_of_lt_of_le hg hb.size, by rw [hb.cell (p := ⟨g, o + j, none⟩) hg]; exact hcell⟩
theorem Txt.drew {w : World} {v : Value} {l : List ByteArray} (h : Txt w v l) : Txt w.drew v l := h.below (Below.refl _ _).drew
theorem Txt.isNone {w : World} {v : Value} (h : Txt w v []) : ∃ a c, v = .slice a 0 c := by
  obtain ⟨a, c, rfl, _⟩ := h
  exact ⟨a, c, rfl⟩
theorem Txt.isSome {w : World} {v : Value} {l : List ByteArray} (h : Txt w v l) (hl : 0 < l.length) :
    ∃ g o c, v = .slice (some ⟨g, o, none⟩) l.length c ∧ l.length ≤ c ∧ g < w.heap.size ∧ ∀ j (h : j < l.length), w.cell? ⟨g, o + j, none⟩ = some (.string l[j]) := by
  obtain ⟨a, c, rfl, hc, hj⟩ := h
  obtain ⟨g, o, rfl, hg, _⟩ := hj 0 hl
  refine ⟨g, o, c, rfl, hc, hg, fun j h => ?_⟩
  obtain ⟨g', o', ha, _, hcell⟩ := hj j h
  simp only [Option.some.injEq, Addr.mk.injEq, and_true] at ha
  obtain ⟨rfl, rfl⟩ := ha
  exact hcell
theorem Txt.mk {w : World} {g o c : Nat} {l : List ByteArray} (hc : l.length ≤ c) (hg : g < w.heap.size) (h : ∀ j (h : j < l.length), w.cell? ⟨g, o + j, none⟩ = some (.string l[j])) :
    Txt w (.slice (some ⟨g, o, none⟩) l.length c) l := ⟨_, c, rfl, hc, fun j hj => ⟨g, o, rfl, hg, h j hj⟩⟩

/-- A slice of texts that came in. -/
theorem open_txt {H : Type} {enc : TypeId × Value → H} {W : World} {a : Option Addr} {len cap : Nat} {d : DataW H} {ps : List MemPlace}
    (h : DataW.Trod enc Try.prog W 0 (fun _ => true) true 27 (.slice a len cap) d ps) :
    ∃ l : List ByteArray, Txt W (.slice a len cap) l ∧ len ≤ maxLen ∧ ∀ s ∈ l, s.size ≤ maxLen := by
  obtain ⟨fuel, hf⟩ := h
  rcases Go.ChangeShapes.open_strings Try.underlying27 Try.underlying9 (by kernel_rfl) hf with ⟨hcs, _⟩ | ⟨x, l, c, ss, hcs, _, hl, hm, hz, _, hcell, hws⟩
  · simp [Value.cells] at hcs
    obtain ⟨rfl, rfl, rfl⟩ := hcs
    exact ⟨[], ⟨_, _, rfl, Nat.le_refl _, fun j h => absurd h (Nat.not_lt_zero _)⟩, Nat.zero_le _, fun s hs => by cases hs⟩
  · simp [Value.cells] at hcs
    obtain ⟨rfl, rfl, rfl⟩ := hcs
    have hz' : ss.length = cap := by simpa using hz
    have htl : (ss.take len).length = len := by rw [List.length_take]; omega
    refine ⟨ss.take len, ⟨some x, cap, by rw [htl], by rw [htl]; exact hl, fun j h => ?_⟩, Nat.le_trans hl hm, fun s hs => hws s (List.mem_of_mem_take hs)⟩
    rw [htl] at h
    have hsp : x.spot = none := by
      have h0 := hcell 0 (by omega)
      have := World.cell?_spot h0
      rw [Addr.add] at this
      split at this <;> simp_all
    obtain ⟨b, off, spot⟩ := x
    simp only at hsp
    subst hsp
    have hj := hcell j (by omega)
    rw [Go.WideShapes.add_plain] at hj
    refine ⟨b, off, rfl, World.block_lt_of_cell? W _ hj, ?_⟩
    rw [hj, List.getElem_take, List.getD_eq_getElem?_getD, List.getElem?_eq_getElem (by omega)]
    rfl

/-- The slice v is the call's own, from block B on, and it is the texts l. -/
def Own (w : World) (B : Nat) (v : Value) (l : List ByteArray) : Prop := w.ownsRow B 9 1 v l.length (l.map Value.string)

theorem Own.below {w w' : World} {B : Nat} {v : Value} {l : List ByteArray} (h : Own w B v l) (hb : Below w.heap.size w w') : Own w' B v l := by
  refine ⟨h.1, ?_⟩
  rcases h.2 with hn | ⟨g, cap, cur, rfl, hB, hg, rest⟩
  · exact .inl hn
  · exact .inr ⟨g, cap, cur, rfl, hB, by rw [hb.block g (Array.getElem?_eq_some_iff.1 hg).1]; exact hg, rest⟩
theorem Own.txt {w : World} {B : Nat} {v : Value} {l : List ByteArray} (h : Own w B v l) : Txt w v l := by
  have hcells := fun g hg => h.cells (g := g) hg
  rcases h.2 with ⟨rfl, hn⟩ | ⟨g, cap, cur, rfl, _, hg, hnc, _⟩
  · have : l = [] := List.eq_nil_of_length_eq_zero hn
    subst this
    exact ⟨_, _, rfl, Nat.le_refl _, fun j h => absurd h (Nat.not_lt_zero _)⟩
  · refine ⟨_, cap, rfl, hnc, fun j hj => ⟨g, 0, rfl, (Array.getElem?_eq_some_iff.1 hg).1, ?_⟩⟩
    have := hcells g rfl j (.string l[j]) (by rw [List.getElem?_map, List.getElem?_eq_getElem hj]; rfl)
    rw [Go.WideShapes.add_plain] at this
    exact this
/-- A literal of texts. -/
theorem own_lit (w : World) (B : Nat) (l : List ByteArray) (hB : B ≤ w.heap.size) (hl : l.length ≤ maxLen) :
    Own (w.alloc (.cells (l.map Value.string).toArray 9)) B (.slice (some ⟨w.heap.size, 0, none⟩) l.length l.length) l := by
  have := World.ownsRow_lit (base := B) (e := 9) (size := 1) w (l.map Value.string).toArray l.length hB hl (by simp)
  simpa [Own] using this

theorem own_none (w : World) (B : Nat) (hB : B ≤ w.heap.size) : Own (w.alloc (.cells #[] 9)) B (.slice (some ⟨w.heap.size, 0, none⟩) 0 0) [] := own_lit w B [] hB (by decide)
theorem own_one (w : World) (B : Nat) (p : ByteArray) (hB : B ≤ w.heap.size) : Own (w.alloc (.cells #[.string p] 9)) B (.slice (some ⟨w.heap.size, 0, none⟩) 1 1) [p] := own_lit w B [p] hB (by show 1 ≤ maxLen; decide)
theorem txt_one (w : World) (p : ByteArray) : Txt (w.alloc (.cells #[.string p] 9)) (.slice (some ⟨w.heap.size, 0, none⟩) 1 1) [p] := (own_one w 0 p (Nat.zero_le _)).txt
theorem txt_two (w : World) (p q : ByteArray) : Txt (w.alloc (.cells #[.string p, .string q] 9)) (.slice (some ⟨w.heap.size, 0, none⟩) 2 2) [p, q] := (own_lit w 0 [p, q] (Nat.zero_le _) (by show 2 ≤ maxLen; decide)).txt
theorem Txt.len {w : World} {a : Option Addr} {n c : Nat} {l : List ByteArray} (h : Txt w (.slice a n c) l) : l.length = n := by
  obtain ⟨a', c', e, _⟩ := h
  simp only [Value.slice.injEq] at e
  exact e.2.1.symm
theorem Own.alloc {w : World} {B : Nat} {v : Value} {l : List ByteArray} (h : Own w B v l) (o : Obj) : Own (w.alloc o) B v l := h.below ((Below.refl _ w).alloc (Nat.le_refl _) _)
theorem Txt.alloc {w : World} {v : Value} {l : List ByteArray} (h : Txt w v l) (o : Obj) : Txt (w.alloc o) v l := h.below ((Below.refl _ w).alloc (Nat.le_refl _) _)

theorem info_str : ∃ i, Try.prog.info? 9 = some i ∧ i.zero = some (.string ⟨#[]⟩) ∧ i.size = 1 ∧ i.bytes = 16 := info_parts (by kernel_rfl)

/-- append(v, x..): texts behind texts. -/
theorem app_txt (w : World) (B : Nat) (v x : Value) (l m : List ByteArray) (hv : Own w B v l) (hx : Txt w x m) (hB : B ≤ w.heap.size) (hn : l.length + m.length ≤ 4294967296) (ty : TypeId) :
    ∃ a c w', (Builtin.append_ #[27, 27] ty #[v, x]).run Try.prog w = .ok (.slice a (l.length + m.length) c) w' ∧ Own w' B (.slice a (l.length + m.length) c) (l ++ m) ∧ Below B w w' := by
  obtain ⟨i, hi, hz, hs, hb⟩ := info_str
  by_cases hm : 0 < m.length
  · obtain ⟨g, o, c, rfl, hc, hg, hcell⟩ := hx.isSome hm
    obtain ⟨v', w', h1, h2, h3, _⟩ := run_append_own (P := Try.prog) w B 27 ty 9 i (.string ⟨#[]⟩) 1 16 Try.underlying27 hi hz hs hb rfl (by decide) v l.length (l.map Value.string) hv
      ⟨g, o, none⟩ m.length c (m.map Value.string) (by simp) (fun j u hu => by
        rw [List.getElem?_map] at hu
        by_cases hj : j < m.length
        · rw [List.getElem?_eq_getElem hj] at hu
          rw [Go.WideShapes.add_plain, hcell j hj]
          exact hu
        · rw [List.getElem?_eq_none (by omega)] at hu; cases hu) (fun u hu => by obtain ⟨s, _, rfl⟩ := List.mem_map.1 hu; rfl) (by unfold maxLen; omega) (by omega) hB
    have hO : Own w' B v' (l ++ m) := by rw [Own, List.length_append, List.map_append]; exact h2
    have hbel : Below B w w' := (Below.refl B w).grown h3 hB (fun k hk => (hv.lt k hk).1)
    rcases h2.2 with ⟨rfl, h0⟩ | ⟨g', c', cur, rfl, _⟩
    · omega
    · refine ⟨.some ⟨g', 0, .none⟩, c', w', ?_, ?_, hbel⟩
      · exact h1
      · exact hO
  · have h0 : m = [] := List.eq_nil_of_length_eq_zero (by omega)
    subst h0
    obtain ⟨a, c, rfl⟩ := hx.isNone
    have hO : Own w B v (l ++ []) := by rw [List.append_nil]; exact hv
    rcases hv.2 with ⟨rfl, h0⟩ | ⟨g, cap, cur, rfl, _, _, hnc, _⟩
    · refine ⟨.none, 0, w, ?_, by simpa [h0] using hO, Below.refl _ _⟩
      cases a <;> simp [Builtin.append_, run_underlying Try.underlying27, sizeOf, typeInfo, hi, Builtin.lenOf, Builtin.firstCells, loadCells, loadCellsFrom, h0]
    · refine ⟨_, cap, w, ?_, by simpa using hO, Below.refl _ _⟩
      cases a <;> simp [Builtin.append_, run_underlying Try.underlying27, sizeOf, typeInfo, hi, Builtin.lenOf, Builtin.firstCells, loadCells, loadCellsFrom, hnc, storeCells]

/-- The same, for the walk. -/
theorem wpList_append_txt {ops : Array Oper} {rest : List Oper} {o : Oper} {a : Act} {Q : Exit → Act → World → Prop} (w : World) (hgd : o.guard = none) (s x : Operand)
    (ho : o.op = .call { callee := .builtin .append, args := #[s, x], argTypes := #[27, 27] }) (B : Nat) (v xv : Value) (l m k : List ByteArray) (n : Nat) (hs : a.eval s = v) (hx : a.eval x = xv)
    (hk : l ++ m = k) (hn : k.length = n) (hv : Own w B v l) (hxt : Txt w xv m) (hB : B ≤ w.heap.size) (hN : n ≤ 4294967296)
    (h : ∀ b c w', Own w' B (.slice b n c) k → Below B w w' → w.heap.size ≤ w'.heap.size → wpList Try.prog ops Q rest (a.put o.dst (.slice b n c)) w') : wpList Try.prog ops Q (o :: rest) a w := by
  subst hk
  rw [List.length_append] at hn
  subst hn
  obtain ⟨b, c, w', h1, h2, h3⟩ := app_txt w B v xv l m hv hxt hB hN o.type
  exact Lib.wpList_append_run w hgd s x _ _ ho v xv hs hx _ _ h1 (h b c w' h2 h3 h3.size)

/-- Block g begins with the bytes l, and they may be written. -/
structure RowB (w : World) (g : Nat) (l : List UInt8) : Prop where
  c : ∀ j (h : j < l.length), w.cell? ⟨g, j, none⟩ = some (.int .u8 (l[j].toNat : Int))
  f : ∀ j, j < l.length → w.frozen? ⟨g, j, none⟩ = false
  lt : g < w.heap.size
theorem RowB.below {w w' : World} {g B : Nat} {l : List UInt8} (h : RowB w g l) (hb : Below B w w') (hB : g < B) : RowB w' g l :=
  ⟨fun j hj => by rw [hb.cell (p := ⟨g, j, none⟩) hB]; exact h.c j hj, fun j hj => by rw [hb.frozen (p := ⟨g, j, none⟩) hB]; exact h.f j hj, Nat.lt_of_lt_of_le h.lt hb.size⟩
/-- The world behind []byte(p). -/
def bytesW (w : World) (p : ByteArray) : World :=
  w.drew.alloc (.cells (bytesRow p (grownCap w p.size 0 5)) 5 ((bytesRow p (grownCap w p.size 0 5)).size, (bytesRow p (grownCap w p.size 0 5)).size + 1))
theorem conv_to (w : World) (p : ByteArray) : (convert 9 48 (.string p)).run Try.prog w = .ok (.slice (some ⟨w.heap.size, 0, none⟩) p.size (grownCap w p.size 0 5)) (bytesW w p) :=
  run_bytes_of_string w 9 48 5 p Try.underlying9 Try.underlying48 Try.underlying5
theorem bytesW_below (w : World) (p : ByteArray) : Below w.heap.size w (bytesW w p) := ((Below.refl _ w).drew).alloc (Nat.le_refl _) _
theorem bytesW_row (w : World) (p : ByteArray) : RowB (bytesW w p) w.heap.size p.data.toList := by
  have hh : (bytesW w p).heap[w.heap.size]? = some (.cells (bytesRow p (grownCap w p.size 0 5)) 5 ((bytesRow p (grownCap w p.size 0 5)).size, (bytesRow p (grownCap w p.size 0 5)).size + 1)) := heap_alloc_new w.drew _
  have hz : p.data.toList.length ≤ (bytesRow p (grownCap w p.size 0 5)).size := by
    simp [bytesRow]
  refine ⟨fun j hj => ?_, fun j hj => ?_, by show w.heap.size < _; simp [bytesW]⟩
  · have hj2 : j < p.data.size := by simpa using hj
    have hb : (bytesRow p (grownCap w p.size 0 5))[j]? = some (.int .u8 (p.data[j].toNat : Int)) := by
      rw [bytesRow, Array.getElem?_append_left (by simpa using hj2), Array.getElem?_map, Array.getElem?_eq_getElem hj2]
      rfl
    simp [World.cell?, hh, hb]
  · simp [World.frozen?, hh]
    omega
/-- string(b). -/
theorem conv_from (w : World) (g : Nat) (l : List UInt8) (h : RowB w g l) (n cap : Nat) (hn : n = l.length) :
    (convert 48 9 (.slice (some ⟨g, 0, none⟩) n cap)).run Try.prog w = .ok (.string ⟨l.toArray⟩) w := by
  subst hn
  exact run_convert_bytes_back (P := Try.prog) w 48 9 5 ⟨g, 0, none⟩ cap l Try.underlying48 Try.underlying5 Try.underlying9 (fun j hj => by
    rw [show Addr.add ⟨g, 0, none⟩ j = ⟨g, j, none⟩ by unfold Addr.add; split <;> simp_all]
    rw [h.c j hj])
theorem RowB.set {w : World} {g : Nat} {l : List UInt8} (h : RowB w g l) (j : Nat) (hj : j < l.length) (b : UInt8) : RowB (w.setCell ⟨g, j, none⟩ (.int .u8 (b.toNat : Int))) g (l.set j b) := by
  refine ⟨fun k hk => ?_, fun k hk => ?_, by simp [World.setCell]; exact h.lt⟩
  · rw [List.length_set] at hk
    by_cases e : j = k
    · subst e
      rw [World.cell?_setCell_same _ _ _ (h.c j hj)]
      simp
    · rw [World.cell?_setCell_other _ _ _ _ (by intro h; apply e; cases h; rfl), h.c k hk, List.getElem_set_ne e]
  · rw [List.length_set] at hk
    rw [World.frozen?_setCell]; exact h.f k hk
end Go.Proofs.Ytpalgadokdcgnaa

/- code.fitting, code.Fits: columns that were read. -/
namespace Go.Proofs.Ytpalgadokdcgnaa
set_option maxRecDepth 100000
open Go.RowKit M

/-- A column's text, or nothing. -/
def secT (s : ByteArray) : Bool := s.size == 0 || s.size == 64
def fitL (G : List ByteArray) : Bool := G.all secT
theorem empty_txt (s : ByteArray) : s.toList.isEmpty = (s.size == 0) := by
  rw [ByteArray.toList_eq, sizeL]
  cases s.data.toList <;> simp

theorem fitting1_any (s : ByteArray) (w : World) (b : Bool) (hb : secT s = !b) :
    Calls Try.prog 44 #[.string s] w fun e w' => e = .returned (.bool b) ∧ w = w' := by
  have hq := empty_txt s
  unfold secT at hb
  obtain ⟨n, hn⟩ : ∃ n, s.size = n := ⟨_, rfl⟩
  rw [hn] at hb hq
  by_cases h0 : n = 0
  · subst h0
    obtain rfl : b = false := by cases b <;> simp at hb ⊢
    have hq' : s.toList.isEmpty = true := by rw [hq]; rfl
    clear hq hb
    go_enter Try.func44, Try.ntmps44
    go_wp2
    go_ret
    exact ⟨rfl, rfl⟩
  · have hq' : s.toList.isEmpty = false := by rw [hq]; simp [h0]
    have hb' : ((n : Int) == 64) = !b := by
      rw [← hb]
      have : (n == 0) = false := by simp [h0]
      rw [this, Bool.false_or]
      by_cases h : n = 64
      · subst h; rfl
      · rw [show (n == 64) = false by simp [h]]; simp; omega
    clear hq hb
    cases b with
    | true =>
      have hc : ((n : Int) != 64) = true := by unfold bne; rw [hb']; rfl
      clear hb'
      go_enter Try.func44, Try.ntmps44
      go_wp2
      go_ret
      exact ⟨rfl, rfl⟩
    | false =>
      have hc : ((n : Int) != 64) = false := by unfold bne; rw [hb']; rfl
      clear hb'
      go_enter Try.func44, Try.ntmps44
      go_wp2
      go_ret
      exact ⟨rfl, rfl⟩

def fitTo (l : List ByteArray) (k : Nat) : Prop := ∀ j (h : j < l.length), j < k → secT l[j] = true
theorem fitTo_all {l : List ByteArray} (h : fitTo l l.length) : fitL l = true := by
  unfold fitL
  rw [List.all_eq_true]
  intro s hs
  obtain ⟨j, hj, rfl⟩ := List.getElem_of_mem hs
  exact h j hj hj
theorem fit_not {l : List ByteArray} {k : Nat} (hk : k < l.length) (h : secT l[k] = false) : fitL l = false := by
  unfold fitL
  rw [List.all_eq_false]
  exact ⟨_, List.getElem_mem hk, by simp [h]⟩

set_option maxHeartbeats 1000000 in
theorem findex_any (l : List ByteArray) (v : Value) (w : World) (h : Txt w v l) (hm : l.length ≤ 100000) :
    Calls Try.prog 56 #[v, .func (.func 44) #[] #[]] w fun e w' =>
      ∃ k : Int, e = .returned (.int .i64 k) ∧ (fitL l = true → k = -1) ∧ (fitL l = false → 0 ≤ k) ∧ w = w' := by
  obtain ⟨a, c, rfl, hcc, hj⟩ := h
  have HJ := Lib.hid hj
  clear hj
  generalize hn : l.length = n at hm hcc
  have HN := Lib.hid hn
  clear hn
  go_enter Try.func56, Try.ntmps56
  go_wp2_with fail
  go_loop [8] (fun i => ∃ k : Nat, k ≤ n ∧ i = .int .i64 k ∧ Hid (fitTo l k)) (fun i => n - (intOf i).toNat)
  case atStart => exact ⟨0, Nat.zero_le _, rfl, Lib.hid fun j _ hj => absurd hj (Nat.not_lt_zero _)⟩
  case round =>
    obtain ⟨k, hk, rfl, H⟩ := hrel
    by_cases hlt : k < n
    · have hlt' : k < l.length := by rw [HN.out]; exact hlt
      obtain ⟨g, o, rfl, hg, hck⟩ := HJ.out k hlt'
      generalize hs : l[k] = s at hck
      have HS : Hid (∃ h : k < l.length, l[k] = s) := Lib.hid ⟨hlt', hs⟩
      clear hs hlt'
      cases hz : secT s with
      | true =>
        have HZ := Lib.hid hz
        clear hz
        go_wp2_with fail
        refine (fitting1_any s _ false HZ.out).mono ?_
        rintro e w1 ⟨rfl, rfl⟩
        go_wp2
        go_round
        case rel =>
          refine ⟨k + 1, by omega, by go_num, Lib.hid fun j hj hjk => ?_⟩
          by_cases e : j = k
          · subst e
            obtain ⟨_, hs⟩ := HS.out
            rw [hs]; exact HZ.out
          · exact H.out j hj (by omega)
        case measure => simp [intOf]; omega
      | false =>
        have HZ := Lib.hid hz
        clear hz
        go_wp2_with fail
        refine (fitting1_any s _ true HZ.out).mono ?_
        rintro e w1 ⟨rfl, rfl⟩
        go_wp2
        go_ret
        have hno : fitL l = false := by
          obtain ⟨hk', hs⟩ := HS.out
          exact fit_not hk' (by rw [hs]; exact HZ.out)
        exact ⟨k, rfl, fun h => by (rw [hno] at h; cases h), fun _ => by omega, rfl⟩
    · go_wp2
      go_ret
      have hyes : fitL l = true := fitTo_all (by
        obtain rfl : k = n := by omega
        rw [HN.out]; exact H.out)
      exact ⟨-1, rfl, fun _ => rfl, fun h => by (rw [hyes] at h; cases h), rfl⟩
theorem fcontains_any (l : List ByteArray) (v : Value) (w : World) (h : Txt w v l) (hm : l.length ≤ 100000) (b : Bool) (hb : fitL l = b) :
    Calls Try.prog 43 #[v, .func (.func 44) #[] #[]] w fun e w' => e = .returned (.bool (!b)) ∧ w = w' := by
  have HI := Lib.hid (findex_any l v w h hm)
  have HB := Lib.hid hb
  clear h hm hb
  go_enter Try.func43, Try.ntmps43
  go_wp2_with fail
  refine HI.out.mono ?_
  rintro e w1 ⟨k, rfl, h1, h2, rfl⟩
  rw [HB.out] at h1 h2
  cases b with
  | true =>
    obtain rfl := h1 rfl
    go_wp2
    go_ret
    exact ⟨rfl, rfl⟩
  | false =>
    have hk := h2 rfl
    clear h1 h2
    go_wp2
    go_ret
    exact ⟨rfl, rfl⟩

/-- The columns of a block that may be there. -/
def colsI (l : List (Int × Int)) (k t z : Int) : List C := colsOf l k.toNat t.toNat z.toNat
/-- Do columns that were read fit? -/
def fitsL (l : List (Int × Int)) (sc k t z : Int) (G : List ByteArray) : Bool := mayL l sc k t z && decide ((colsI l k t z).length = G.length) && fitL G
/-- What fitting answers. -/
def FitB (l : List (Int × Int)) (sc k t z : Int) (G : List ByteArray) (B : Nat) (w : World) (v : Value) (ok : Bool) : Prop :=
  ok = fitsL l sc k t z G ∧ (ok = true → ∃ k' t' z' : Nat, k = k' ∧ t = t' ∧ z = z' ∧ Blk l sc k' t' z' ∧ (colsOf l k' t' z').length = G.length ∧ fitL G = true ∧ OwnC B w v (colsOf l k' t' z')) ∧ ∃ a n c, v = .slice a n c

set_option maxHeartbeats 1000000 in
theorem fitting_any (l : List (Int × Int)) (sc : Int) (v : Value) (w : World) (h : Meas w v l sc) (k t z : Int) (hk : I64 k) (ht : I64 t) (hz : I64 z) (G : List ByteArray) (vG : Value) (hG : Txt w vG G) (hm : G.length ≤ 100000) :
    Calls Try.prog 29 #[v, .agg #[.int .i64 k, .int .i64 t], .int .i64 z, vG] w fun e w' => ∃ v' ok, e = .returned (.tuple #[v', .bool ok]) ∧ FitB l sc k t z G w.heap.size w' v' ok ∧ Below w.heap.size w w' := by
  have K1 := h
  obtain ⟨a, n, c, rfl, hg⟩ := id h
  replace K1 := Lib.hid (HeldP.start k t K1)
  have HC := Lib.hid (of_any l sc _ _ K1.out.h.m k t z hk ht hz)
  have HG := Lib.hid hG
  obtain ⟨aG, cG, rfl, hcG, hjG⟩ := hG
  generalize hn : G.length = nG at hcG hm HG
  have HN := Lib.hid hn
  clear h hg hk ht hz hjG hn
  go_enter Try.func29, Try.ntmps29
  go_wp2_with fail
  refine HC.out.mono ?_
  rintro e w1 ⟨v1, er, rfl, ho, b1⟩
  have HB := Lib.hid (next K1.out.h.below b1)
  clear b1
  rcases ho with ⟨hno, rfl, rfl⟩ | ⟨k', t', z', rfl, rfl, rfl, hB, rfl, hO⟩
  · have HF : Hid (fitsL l sc k t z G = false) := Lib.hid (by unfold fitsL; rw [hno]; rfl)
    clear hno
    go_wp2
    go_ret2
    exact ⟨_, _, rfl, ⟨HF.out.symm, fun h => (by cases h), _, _, _, rfl⟩, HB.out⟩
  · obtain ⟨g, c1, rfl, hc1, hg1, hA⟩ := OwnC.some hO hB.laid.pos
    have hlen := hB.laid.few
    have HO := Lib.hid hO
    have HBB := Lib.hid hB
    clear hA hO
    have HFF : Hid (fitsL l sc k' t' z' G = (decide ((colsOf l k' t' z').length = G.length) && fitL G)) := Lib.hid (by
      unfold fitsL
      rw [mayL_iff.2 ⟨k', t', z', rfl, rfl, rfl, hB⟩]
      rfl)
    clear hB
    obtain ⟨m, hmm⟩ : ∃ m, (colsOf l k' t' z').length = m := ⟨_, rfl⟩
    rw [hmm] at hlen hc1 HO HFF ⊢
    have HM := Lib.hid hmm
    clear hmm
    by_cases hl : m = nG
    · subst hl
      cases hfit : fitL G with
      | true =>
        have HCF := Lib.hid (fcontains_any G _ w1 (HG.out.below HB.out) (by rw [HN.out]; exact hm) true hfit)
        have HF : Hid (fitsL l sc k' t' z' G = true) := Lib.hid (by rw [HFF.out, HN.out, hfit]; simp)
        have HFT := Lib.hid hfit
        clear hfit
        go_wp2_with fail
        refine HCF.out.mono ?_
        rintro e w2 ⟨rfl, rfl⟩
        go_wp2
        go_ret2
        exact ⟨_, _, rfl, ⟨HF.out.symm, fun _ => ⟨k', t', z', rfl, rfl, rfl, HBB.out, by rw [HM.out, HN.out], HFT.out, HO.out.lower K1.out.h.below.size⟩, _, _, _, rfl⟩, HB.out⟩
      | false =>
        have HCF := Lib.hid (fcontains_any G _ w1 (HG.out.below HB.out) (by rw [HN.out]; exact hm) false hfit)
        have HF : Hid (fitsL l sc k' t' z' G = false) := Lib.hid (by rw [HFF.out, HN.out, hfit]; simp)
        clear hfit
        go_wp2_with fail
        refine HCF.out.mono ?_
        rintro e w2 ⟨rfl, rfl⟩
        go_wp2
        go_ret2
        exact ⟨_, _, rfl, ⟨HF.out.symm, fun h => (by cases h), _, _, _, rfl⟩, HB.out⟩
    · have HF : Hid (fitsL l sc k' t' z' G = false) := Lib.hid (by rw [HFF.out, HN.out]; simp [hl])
      have hl' : ((m : Int) == (nG : Int)) = false := by simp; omega
      have hl2 : ((m : Int) != (nG : Int)) = true := by unfold bne; rw [hl']; rfl
      clear hl
      go_wp2
      go_ret2
      exact ⟨_, _, rfl, ⟨HF.out.symm, fun h => (by cases h), _, _, _, rfl⟩, HB.out⟩

theorem fits_any (l : List (Int × Int)) (sc : Int) (v : Value) (w : World) (h : Meas w v l sc) (k t z : Int) (hk : I64 k) (ht : I64 t) (hz : I64 z) (G : List ByteArray) (vG : Value) (hG : Txt w vG G) (hm : G.length ≤ 100000) :
    Calls Try.prog 15 #[v, .agg #[.int .i64 k, .int .i64 t], .int .i64 z, vG] w fun e w' => e = .returned (.bool (fitsL l sc k t z G)) ∧ Below w.heap.size w w' := by
  have K1 := h
  obtain ⟨a, n, c, rfl, hg⟩ := id h
  replace K1 := Lib.hid (HeldP.start k t K1)
  have HC := Lib.hid (fitting_any l sc _ _ K1.out.h.m k t z hk ht hz G vG (hG.below K1.out.h.below) hm)
  clear h hg hk ht hz hG hm
  go_enter Try.func15, Try.ntmps15
  go_wp2_with fail
  refine HC.out.mono ?_
  rintro e w1 ⟨v1, ok, rfl, ⟨rfl, _, _, _, _, rfl⟩, b1⟩
  go_wp2
  go_ret
  exact ⟨rfl, next K1.out.h.below b1⟩
end Go.Proofs.Ytpalgadokdcgnaa

/- A range over a function whose iterator keeps its place in cells of its own: a law for the statement, and the contract that such an iterator is to meet. No program is named here. -/
namespace Go.Proofs.Ytpalgadokdcgnaa
set_option maxRecDepth 100000
open Go.RowKit

/-- From block B on, all that lay lies as it lay. -/
structure Since (B : Nat) (W W' : World) : Prop where
  size : W.heap.size ≤ W'.heap.size
  same : ∀ k, B ≤ k → k < W.heap.size → W'.heap[k]? = W.heap[k]?

theorem Since.refl (B : Nat) (W : World) : Since B W W := ⟨Nat.le_refl _, fun _ _ _ => rfl⟩
theorem Since.trans {B : Nat} {X Y Z : World} (h : Since B X Y) (g : Since B Y Z) : Since B X Z :=
  ⟨Nat.le_trans h.size g.size, fun k hk hx => (g.same k hk (Nat.lt_of_lt_of_le hx h.size)).trans (h.same k hk hx)⟩
theorem Since.mono {B C : Nat} {X Y : World} (h : Since B X Y) (hBC : B ≤ C) : Since C X Y := ⟨h.size, fun k hk hx => h.same k (Nat.le_trans hBC hk) hx⟩
theorem Since.alloc {B : Nat} {X Y : World} (h : Since B X Y) (o : Obj) : Since B X (Y.alloc o) :=
  h.trans ⟨by simp, fun k _ hk => Below.heap_alloc Y o k hk⟩
theorem Since.setCell {B : Nat} {X Y : World} (h : Since B X Y) {p : Addr} (hp : p.block < B) (v : Value) : Since B X (Y.setCell p v) :=
  h.trans ⟨by simp [World.setCell], fun k hk _ => Below.heap_setCell _ _ _ _ (by omega)⟩
theorem Since.drew {B : Nat} {X Y : World} (h : Since B X Y) : Since B X Y.drew := ⟨h.size, h.same⟩
theorem Since.putObj {B : Nat} {X Y : World} (h : Since B X Y) {l : Nat} (hl : l < B) (o : Obj) : Since B X (Y.putObj l o) :=
  h.trans ⟨by simp, fun k hk _ => World.putObj_heap_other (by omega)⟩
/-- What only made memory keeps all. -/
theorem Since.of_below {B : Nat} {X Y : World} (h : Below X.heap.size X Y) : Since B X Y := ⟨h.size, fun k _ hk => h.block k hk⟩
theorem Since.cell {B : Nat} {X Y : World} (h : Since B X Y) {p : Addr} (h1 : B ≤ p.block) (h2 : p.block < X.heap.size) : Y.cell? p = X.cell? p :=
  World.cell?_of_block (w := X) (h.same p.block h1 h2)
theorem Since.frozen {B : Nat} {X Y : World} (h : Since B X Y) {p : Addr} (h1 : B ≤ p.block) (h2 : p.block < X.heap.size) : Y.frozen? p = X.frozen? p :=
  World.frozen?_of_block (w := X) (h.same p.block h1 h2)
theorem below_putObj {B : Nat} {X Y : World} (h : Below B X Y) {l : Nat} (hl : B ≤ l) (o : Obj) : Below B X (Y.putObj l o) :=
  h.trans ⟨rfl, rfl, rfl, by simp, fun k hk => World.putObj_heap_other (by omega)⟩

/-- What is said of a world by what lies below block B. -/
def Stands (B : Nat) (I : Nat → World → Prop) : Prop := ∀ k X Y, I k X → Below B X Y → I k Y

theorem Stands.mono {B C : Nat} {I : Nat → World → Prop} (h : Stands B I) (hBC : B ≤ C) : Stands C I := fun k X Y hk hb => h k X Y hk (hb.mono hBC)
theorem Stands.putObj {B : Nat} {I : Nat → World → Prop} (h : Stands B I) {k l : Nat} {X : World} (hk : I k X) (hl : B ≤ l) (o : Obj) : I k (X.putObj l o) :=
  h k X _ hk (below_putObj (Below.refl _ _) hl o)

/-- The iterator hands out just xs, one by one, however the rounds go on; what the rounds have made stands through its own steps, and it leans on this alone, that a round leaves the blocks that it made itself. -/
def Hands {α : Type} (F : Fence) (n : Nat) (P : Program) (g : Nat) (lb : Array Value) (enc : α → Value) (xs : List α) (w : World) : Prop :=
  ∀ (l : Nat) (J Jx : Nat → World → Prop) (W : World), Below w.heap.size w W → Stands W.heap.size J → Stands W.heap.size Jx →
    (∀ k x W1, xs[k]? = some x → J k W1 → YieldAt F (n - 1) P l #[enc x] W1 fun e W' =>
      (e = .returned (.bool true) ∧ J (k + 1) W' ∧ Since W.heap.size W1 W') ∨ (e = .returned (.bool false) ∧ Jx (k + 1) W')) →
    J 0 W →
    CallsIn F n P g (#[.func (.yield l) #[] #[]] ++ lb) W fun e W' => (∃ v, e = .returned v) ∧ (J xs.length W' ∨ ∃ k, k ≤ xs.length ∧ Jx k W')

/-- How a round's body may be left. -/
def leftBy (B : Nat) (I : Nat → World → Prop) (Ix : Code → Nat → World → Prop) (k : Nat) (W : World) : Exit → Act → World → Prop
  | .normal, _, W' => Since B W W' ∧ I k W'
  | .ret, _, W' => Since B W W' ∧ Ix .ret k W'
  | .exit id, _, W' => Since B W W' ∧ Ix (.exit id) k W'
  | .goto t, _, W' => Since B W W' ∧ Ix (.goto t) k W'
  | .panic _, _, _ => False
  | .outgrown, _, _ => False

section
variable {F : Fence} {n : Nat} {P : Program}

/-- The statement: its own body once, from I to 'leftBy'; what follows where all have come, and where a round has left. -/
theorem wpIn_range_hands {α : Type} {g : Operand} {ps : Array Tmp} {assign body : Code} {Q : Exit → Act → World → Prop} {a : Act} {w : World}
    (hro : F.round = none) (h1 : 1 ≤ n) {gf : Nat} {lb : Array Value} (hg : a.eval g = .func (.func gf) #[] lb) (hFg : F.fn gf) (eg : ∀ args w, (callFunc gf args).run P w = .ok (.enter gf args) w)
    {enc : α → Value} {xs : List α} {w0 : World} (hseq : Hands F (n - 1) P gf lb enc xs w0) (hb0 : Below w0.heap.size w0 w) (hps : ps.size = 1)
    (I : Nat → World → Prop) (Ix : Code → Nat → World → Prop) (hI : Stands w.heap.size I) (hIx : ∀ c, Stands w.heap.size (Ix c)) (h0 : I 0 w) (a₁ : α → Act)
    (hassign : ∀ (l : Nat) (x : α) (W : World) (K : Act → World → Prop), K (a₁ x) W →
      assign.wpIn (F.inRound l) (n - 1 - 1) P (Exit.then K (fun _ _ _ => False)) { tmps := (ps.zip #[enc x]).foldl (fun t (p, v) => t.setIfInBounds p v) a.tmps, defers := [] } W)
    (hbody : ∀ (l k : Nat) (x : α) (W : World), xs[k]? = some x → I k W → body.wpIn (F.inRound l) (n - 1 - 1) P (leftBy w.heap.size I Ix (k + 1) W) (a₁ x) W)
    (hdone : ∀ (D : Nat) (W : World), w.heap.size ≤ D → I xs.length W → W.heap[D]? = some (.deferred (some [])) → Q .normal { a with defers := { target := .collected D, args := #[] } :: a.defers } W)
    (hstop : ∀ (D : Nat) (c : Code) (k : Nat) (W : World), w.heap.size ≤ D → k ≤ xs.length → Ix c k W → W.heap[D]? = some (.deferred (some [])) → c.wpIn F n P Q { a with defers := { target := .collected D, args := #[] } :: a.defers } W) :
    (Code.rangeFunc g ps assign body).wpIn F n P Q a w := by
  refine wpIn_rangeFunc fun fn hfn => ?_
  rw [hro]
  obtain ⟨R, hR⟩ : ∃ R : LoopState → Option Code → Loop, R = fun st pe => { state := st, pending := pe, fn, tmps := a.tmps, params := ps, assign, body, defers := w.heap.size } := ⟨_, rfl⟩
  obtain ⟨V, hV⟩ : ∃ V, (w.alloc (.deferred (some []))).alloc (.loop (R .ready none)) = V := ⟨_, rfl⟩
  have hVs : V.heap.size = w.heap.size + 2 := by rw [← hV]; simp
  have hVl : V.heap[w.heap.size + 1]? = some (.loop (R .ready none)) := by
    have := World.alloc_heap_new (w.alloc (.deferred (some []))) (.loop (R .ready none))
    rw [World.size_alloc] at this
    rw [← hV]; exact this
  have hVd : V.heap[w.heap.size]? = some (.deferred (some [])) := by
    rw [← hV]; exact (Below.heap_alloc _ _ _ (by simp)).trans (World.alloc_heap_new w _)
  have hVb : Below w.heap.size w V := by rw [← hV]; exact ((Below.refl _ w).alloc (Nat.le_refl _) _).alloc (by simp) _
  refine ⟨w.heap.size + 1, [{ target := .collected w.heap.size, args := #[] }], V, { target := .fn (.func gf) lb, args := #[.func (.yield (w.heap.size + 1)) #[] #[]] }, V, gf,
    #[.func (.yield (w.heap.size + 1)) #[] #[]] ++ lb, V, ?_, ?_, ?_, ?_, fun _ => h1, ?_⟩
  · rw [← hV, hR]; exact run_enterLoop_outer _ _ _ _ _
  · simp only [resolve, hg]
    simp [go_sem]
  · intro f' hf'; simp [Target.leads] at hf'; subst hf'; exact hFg
  · simp [invoke, go_sem, eg]
  · refine (hseq (w.heap.size + 1)
      (fun k W => I k W ∧ W.heap[w.heap.size + 1]? = some (.loop (R .ready none)) ∧ W.heap[w.heap.size]? = some (.deferred (some [])))
      (fun k W => ∃ c, Ix c k W ∧ W.heap[w.heap.size + 1]? = some (.loop (R .done (some c))) ∧ W.heap[w.heap.size]? = some (.deferred (some [])))
      V (hb0.trans (hVb.mono hb0.size)) ?_ ?_ ?_ ⟨hI 0 w V h0 hVb, hVl, hVd⟩).mono ?_
    · rintro k X Y ⟨i, r, d⟩ hb
      exact ⟨hI k X Y i (hb.mono (by omega)), (hb.block _ (by omega)).trans r, (hb.block _ (by omega)).trans d⟩
    · rintro k X Y ⟨c, i, r, d⟩ hb
      exact ⟨c, hIx c k X Y i (hb.mono (by omega)), (hb.block _ (by omega)).trans r, (hb.block _ (by omega)).trans d⟩
    · -- one round
      rintro k x W hx ⟨hi, hr, hd⟩
      have hlt : w.heap.size + 1 < W.heap.size := (Array.getElem?_eq_some_iff.1 hr).1
      have hy := run_yield (P := P) (args := #[enc x]) hr (by rw [hR]; simp [hps])
      rw [hR] at hy
      obtain ⟨U, hU⟩ : ∃ U, W.putObj (w.heap.size + 1) (.loop { R .ready none with state := .busy }) = U := ⟨_, rfl⟩
      have hUr : U.heap[w.heap.size + 1]? = some (.loop { R .ready none with state := .busy }) := by rw [← hU]; exact World.putObj_heap_same hlt
      have hUd : U.heap[w.heap.size]? = some (.deferred (some [])) := by rw [← hU]; exact (World.putObj_heap_other (by omega)).trans hd
      have hUs : U.heap.size = W.heap.size := by rw [← hU]; simp
      have hUW : Since V.heap.size W U := by rw [← hU]; exact (Since.refl _ _).putObj (by omega) _
      refine ⟨fn, _, assign, body, hy, roundIn_of_wpIn hfn (hassign _ x W _ ⟨U, by rw [← hU]; exact run_beginRound hr (by rw [hR]), ?_⟩)⟩
      refine wpIn_mono (hbody _ k x U hx (by rw [← hU]; exact hI.putObj hi (by omega) _)) ?_
      have fin : ∀ (jump : Option Code) (X : World), Since w.heap.size U X → ∃ Y, (Instr.endRound (w.heap.size + 1) jump).run P X = .ok (.bool jump.isNone) Y ∧
          Y = X.putObj (w.heap.size + 1) (.loop (R (if jump.isNone then .ready else .done) jump)) ∧ Y.heap[w.heap.size + 1]? = some (.loop (R (if jump.isNone then .ready else .done) jump)) ∧ Y.heap[w.heap.size]? = some (.deferred (some [])) ∧ Since V.heap.size W Y := by
        intro jump X hs
        have hXr := (hs.same (w.heap.size + 1) (by omega) (by omega)).trans hUr
        have hXd := (hs.same w.heap.size (by omega) (by omega)).trans hUd
        have he := run_endRound (P := P) jump hXr
        refine ⟨_, he, by rw [hR], ?_, (World.putObj_heap_other (by omega)).trans hXd, ?_⟩
        · rw [World.putObj_heap_same (Array.getElem?_eq_some_iff.1 hXr).1, hR]
        · exact (hUW.trans (hs.mono (by omega))).putObj (by omega) _
      rintro e a3 X hp
      cases e with
      | normal =>
        obtain ⟨hs, i⟩ := hp
        obtain ⟨Y, he, hY, h2, h3, h4⟩ := fin none X hs
        exact ⟨_, Y, he, .inl ⟨rfl, ⟨by rw [hY]; exact hI.putObj i (by omega) _, h2, h3⟩, h4⟩⟩
      | ret =>
        obtain ⟨hs, i⟩ := hp
        obtain ⟨Y, he, hY, h2, h3, h4⟩ := fin (some .ret) X hs
        exact ⟨_, Y, he, .inr ⟨rfl, .ret, by rw [hY]; exact (hIx _).putObj i (by omega) _, h2, h3⟩⟩
      | exit id =>
        obtain ⟨hs, i⟩ := hp
        obtain ⟨Y, he, hY, h2, h3, h4⟩ := fin (some (.exit id)) X hs
        exact ⟨_, Y, he, .inr ⟨rfl, .exit id, by rw [hY]; exact (hIx _).putObj i (by omega) _, h2, h3⟩⟩
      | goto t =>
        obtain ⟨hs, i⟩ := hp
        obtain ⟨Y, he, hY, h2, h3, h4⟩ := fin (some (.goto t)) X hs
        exact ⟨_, Y, he, .inr ⟨rfl, .goto t, by rw [hY]; exact (hIx _).putObj i (by omega) _, h2, h3⟩⟩
      | panic ch => exact hp.elim
      | outgrown => exact hp.elim
    · -- behind the iterator
      rintro e X ⟨⟨v, rfl⟩, (⟨i, hr, hd⟩ | ⟨k, hk, c, i, hr, hd⟩)⟩
      · refine ⟨none, _, by have := run_endLoop (P := P) hr (by rw [hR]; simp); rw [hR] at this; exact this, ?_⟩
        exact hdone _ _ (Nat.le_refl _) (hI.putObj i (by omega) _) ((World.putObj_heap_other (by omega)).trans hd)
      · refine ⟨some c, _, by have := run_endLoop (P := P) hr (by rw [hR]; simp); rw [hR] at this; exact this, ?_⟩
        exact hstop _ c k _ (Nat.le_refl _) hk ((hIx c).putObj i (by omega) _) ((World.putObj_heap_other (by omega)).trans hd)
end
end Go.Proofs.Ytpalgadokdcgnaa

/- The law for a range over a function once more: what is handed out is several values. -/
namespace Go.Proofs.Ytpalgadokdcgnaa
set_option maxRecDepth 100000
open Go.RowKit

/-- The iterator hands out just xs, one by one; it leans on what lay from block B on in w, which the rounds leave. -/
def HandsS {α : Type} (F : Fence) (n : Nat) (P : Program) (g : Nat) (lb : Array Value) (enc : α → Array Value) (xs : List α) (B : Nat) (w : World) : Prop :=
  ∀ (l : Nat) (J Jx : Nat → World → Prop) (W : World), Since B w W → Stands W.heap.size J → Stands W.heap.size Jx → (∀ k X, J k X → Since B w X) →
    (∀ k x W1, xs[k]? = some x → J k W1 → YieldAt F (n - 1) P l (enc x) W1 fun e W' =>
      (e = .returned (.bool true) ∧ J (k + 1) W' ∧ Since W.heap.size W1 W') ∨ (e = .returned (.bool false) ∧ Jx (k + 1) W')) →
    J 0 W →
    CallsIn F n P g (#[.func (.yield l) #[] #[]] ++ lb) W fun e W' => (∃ v, e = .returned v) ∧ (J xs.length W' ∨ ∃ k, k ≤ xs.length ∧ Jx k W')

section
variable {F : Fence} {n : Nat} {P : Program}

/-- The statement: its own body once, from I to 'leftBy'; what follows where all have come, and where a round has left. -/
theorem wpIn_range_handsS {α : Type} {g : Operand} {ps : Array Tmp} {assign body : Code} {Q : Exit → Act → World → Prop} {a : Act} {w : World}
    (hro : F.round = none) (h1 : 1 ≤ n) {gf : Nat} {lb : Array Value} (hg : a.eval g = .func (.func gf) #[] lb) (hFg : F.fn gf) (eg : ∀ args w, (callFunc gf args).run P w = .ok (.enter gf args) w)
    {enc : α → Array Value} {xs : List α} {w0 : World} {B : Nat} (hseq : HandsS F (n - 1) P gf lb enc xs B w0) (hb0 : Since B w0 w) (hps : ∀ x, (enc x).size = ps.size)
    (I : Nat → World → Prop) (Ix : Code → Nat → World → Prop) (hI : Stands w.heap.size I) (hIx : ∀ c, Stands w.heap.size (Ix c)) (hIK : ∀ k X, I k X → Since B w0 X) (h0 : I 0 w) (a₁ : α → Act)
    (hassign : ∀ (l : Nat) (x : α) (W : World) (K : Act → World → Prop), K (a₁ x) W →
      assign.wpIn (F.inRound l) (n - 1 - 1) P (Exit.then K (fun _ _ _ => False)) { tmps := (ps.zip (enc x)).foldl (fun t (p, v) => t.setIfInBounds p v) a.tmps, defers := [] } W)
    (hbody : ∀ (l k : Nat) (x : α) (W : World), xs[k]? = some x → I k W → body.wpIn (F.inRound l) (n - 1 - 1) P (leftBy w.heap.size I Ix (k + 1) W) (a₁ x) W)
    (hdone : ∀ (D : Nat) (W : World), w.heap.size ≤ D → I xs.length W → W.heap[D]? = some (.deferred (some [])) → Q .normal { a with defers := { target := .collected D, args := #[] } :: a.defers } W)
    (hstop : ∀ (D : Nat) (c : Code) (k : Nat) (W : World), w.heap.size ≤ D → k ≤ xs.length → Ix c k W → W.heap[D]? = some (.deferred (some [])) → c.wpIn F n P Q { a with defers := { target := .collected D, args := #[] } :: a.defers } W) :
    (Code.rangeFunc g ps assign body).wpIn F n P Q a w := by
  refine wpIn_rangeFunc fun fn hfn => ?_
  rw [hro]
  obtain ⟨R, hR⟩ : ∃ R : LoopState → Option Code → Loop, R = fun st pe => { state := st, pending := pe, fn, tmps := a.tmps, params := ps, assign, body, defers := w.heap.size } := ⟨_, rfl⟩
  obtain ⟨V, hV⟩ : ∃ V, (w.alloc (.deferred (some []))).alloc (.loop (R .ready none)) = V := ⟨_, rfl⟩
  have hVs : V.heap.size = w.heap.size + 2 := by rw [← hV]; simp
  have hVl : V.heap[w.heap.size + 1]? = some (.loop (R .ready none)) := by
    have := World.alloc_heap_new (w.alloc (.deferred (some []))) (.loop (R .ready none))
    rw [World.size_alloc] at this
    rw [← hV]; exact this
  have hVd : V.heap[w.heap.size]? = some (.deferred (some [])) := by
    rw [← hV]; exact (Below.heap_alloc _ _ _ (by simp)).trans (World.alloc_heap_new w _)
  have hVb : Below w.heap.size w V := by rw [← hV]; exact ((Below.refl _ w).alloc (Nat.le_refl _) _).alloc (by simp) _
  refine ⟨w.heap.size + 1, [{ target := .collected w.heap.size, args := #[] }], V, { target := .fn (.func gf) lb, args := #[.func (.yield (w.heap.size + 1)) #[] #[]] }, V, gf,
    #[.func (.yield (w.heap.size + 1)) #[] #[]] ++ lb, V, ?_, ?_, ?_, ?_, fun _ => h1, ?_⟩
  · rw [← hV, hR]; exact run_enterLoop_outer _ _ _ _ _
  · simp only [resolve, hg]
    simp [go_sem]
  · intro f' hf'; simp [Target.leads] at hf'; subst hf'; exact hFg
  · simp [invoke, go_sem, eg]
  · refine (hseq (w.heap.size + 1)
      (fun k W => I k W ∧ W.heap[w.heap.size + 1]? = some (.loop (R .ready none)) ∧ W.heap[w.heap.size]? = some (.deferred (some [])))
      (fun k W => ∃ c, Ix c k W ∧ W.heap[w.heap.size + 1]? = some (.loop (R .done (some c))) ∧ W.heap[w.heap.size]? = some (.deferred (some [])))
      V (hb0.trans (Since.of_below hVb)) ?_ ?_ (fun k X hX => hIK k X hX.1) ?_ ⟨hI 0 w V h0 hVb, hVl, hVd⟩).mono ?_
    · rintro k X Y ⟨i, r, d⟩ hb
      exact ⟨hI k X Y i (hb.mono (by omega)), (hb.block _ (by omega)).trans r, (hb.block _ (by omega)).trans d⟩
    · rintro k X Y ⟨c, i, r, d⟩ hb
      exact ⟨c, hIx c k X Y i (hb.mono (by omega)), (hb.block _ (by omega)).trans r, (hb.block _ (by omega)).trans d⟩
    · -- one round
      rintro k x W hx ⟨hi, hr, hd⟩
      have hlt : w.heap.size + 1 < W.heap.size := (Array.getElem?_eq_some_iff.1 hr).1
      have hy := run_yield (P := P) (args := (enc x)) hr (by rw [hR]; simp [hps x])
      rw [hR] at hy
      obtain ⟨U, hU⟩ : ∃ U, W.putObj (w.heap.size + 1) (.loop { R .ready none with state := .busy }) = U := ⟨_, rfl⟩
      have hUr : U.heap[w.heap.size + 1]? = some (.loop { R .ready none with state := .busy }) := by rw [← hU]; exact World.putObj_heap_same hlt
      have hUd : U.heap[w.heap.size]? = some (.deferred (some [])) := by rw [← hU]; exact (World.putObj_heap_other (by omega)).trans hd
      have hUs : U.heap.size = W.heap.size := by rw [← hU]; simp
      have hUW : Since V.heap.size W U := by rw [← hU]; exact (Since.refl _ _).putObj (by omega) _
      refine ⟨fn, _, assign, body, hy, roundIn_of_wpIn hfn (hassign _ x W _ ⟨U, by rw [← hU]; exact run_beginRound hr (by rw [hR]), ?_⟩)⟩
      refine wpIn_mono (hbody _ k x U hx (by rw [← hU]; exact hI.putObj hi (by omega) _)) ?_
      have fin : ∀ (jump : Option Code) (X : World), Since w.heap.size U X → ∃ Y, (Instr.endRound (w.heap.size + 1) jump).run P X = .ok (.bool jump.isNone) Y ∧
          Y = X.putObj (w.heap.size + 1) (.loop (R (if jump.isNone then .ready else .done) jump)) ∧ Y.heap[w.heap.size + 1]? = some (.loop (R (if jump.isNone then .ready else .done) jump)) ∧ Y.heap[w.heap.size]? = some (.deferred (some [])) ∧ Since V.heap.size W Y := by
        intro jump X hs
        have hXr := (hs.same (w.heap.size + 1) (by omega) (by omega)).trans hUr
        have hXd := (hs.same w.heap.size (by omega) (by omega)).trans hUd
        have he := run_endRound (P := P) jump hXr
        refine ⟨_, he, by rw [hR], ?_, (World.putObj_heap_other (by omega)).trans hXd, ?_⟩
        · rw [World.putObj_heap_same (Array.getElem?_eq_some_iff.1 hXr).1, hR]
        · exact (hUW.trans (hs.mono (by omega))).putObj (by omega) _
      rintro e a3 X hp
      cases e with
      | normal =>
        obtain ⟨hs, i⟩ := hp
        obtain ⟨Y, he, hY, h2, h3, h4⟩ := fin none X hs
        exact ⟨_, Y, he, .inl ⟨rfl, ⟨by rw [hY]; exact hI.putObj i (by omega) _, h2, h3⟩, h4⟩⟩
      | ret =>
        obtain ⟨hs, i⟩ := hp
        obtain ⟨Y, he, hY, h2, h3, h4⟩ := fin (some .ret) X hs
        exact ⟨_, Y, he, .inr ⟨rfl, .ret, by rw [hY]; exact (hIx _).putObj i (by omega) _, h2, h3⟩⟩
      | exit id =>
        obtain ⟨hs, i⟩ := hp
        obtain ⟨Y, he, hY, h2, h3, h4⟩ := fin (some (.exit id)) X hs
        exact ⟨_, Y, he, .inr ⟨rfl, .exit id, by rw [hY]; exact (hIx _).putObj i (by omega) _, h2, h3⟩⟩
      | goto t =>
        obtain ⟨hs, i⟩ := hp
        obtain ⟨Y, he, hY, h2, h3, h4⟩ := fin (some (.goto t)) X hs
        exact ⟨_, Y, he, .inr ⟨rfl, .goto t, by rw [hY]; exact (hIx _).putObj i (by omega) _, h2, h3⟩⟩
      | panic ch => exact hp.elim
      | outgrown => exact hp.elim
    · -- behind the iterator
      rintro e X ⟨⟨v, rfl⟩, (⟨i, hr, hd⟩ | ⟨k, hk, c, i, hr, hd⟩)⟩
      · refine ⟨none, _, by have := run_endLoop (P := P) hr (by rw [hR]; simp); rw [hR] at this; exact this, ?_⟩
        exact hdone _ _ (Nat.le_refl _) (hI.putObj i (by omega) _) ((World.putObj_heap_other (by omega)).trans hd)
      · refine ⟨some c, _, by have := run_endLoop (P := P) hr (by rw [hR]; simp); rw [hR] at this; exact this, ?_⟩
        exact hstop _ c k _ (Nat.le_refl _) hk ((hIx c).putObj i (by omega) _) ((World.putObj_heap_other (by omega)).trans hd)
end
end Go.Proofs.Ytpalgadokdcgnaa

/- An own slice of numbers. -/
namespace Go.Proofs.Ytpalgadokdcgnaa
set_option maxRecDepth 100000
open Go.RowKit

/-- The slice v is the call's own, from block B on, and it is the numbers zs. -/
def OwnI (B : Nat) (w : World) (v : Value) (zs : List Int) : Prop := w.ownsRow B 3 1 v zs.length (zs.map (Value.int .i64))
theorem OwnI.nil (B : Nat) (w : World) : OwnI B w (.slice none 0 0) [] := World.ownsRow_nil _ _ _ _
theorem OwnI.below {w w' : World} {B : Nat} {v : Value} {l : List Int} (h : OwnI B w v l) (hb : Below w.heap.size w w') : OwnI B w' v l := by
  refine ⟨h.1, ?_⟩
  rcases h.2 with hn | ⟨g, cap, cur, rfl, hB, hg, rest⟩
  · exact .inl hn
  · exact .inr ⟨g, cap, cur, rfl, hB, by rw [hb.block g (Array.getElem?_eq_some_iff.1 hg).1]; exact hg, rest⟩
theorem OwnI.lower {w : World} {B B' : Nat} {v : Value} {l : List Int} (h : OwnI B w v l) (hB : B' ≤ B) : OwnI B' w v l := by
  refine ⟨h.1, ?_⟩
  rcases h.2 with hn | ⟨g, cap, cur, rfl, hB', hg, rest⟩
  · exact .inl hn
  · exact .inr ⟨g, cap, cur, rfl, Nat.le_trans hB hB', hg, rest⟩
/-- The slice v is the numbers zs. -/
def IntsV (w : World) (v : Value) (zs : List Int) : Prop :=
  ∃ a n c, v = .slice a n c ∧ zs.length = n ∧ n ≤ c ∧ ∀ j (h : j < zs.length), ∃ g, a = some ⟨g, 0, none⟩ ∧ g < w.heap.size ∧ w.cell? ⟨g, j, none⟩ = some (.int .i64 zs[j])
theorem OwnI.v {w : World} {B : Nat} {v : Value} {zs : List Int} (h : OwnI B w v zs) : IntsV w v zs := by
  have hcells := fun g hg => World.ownsRow.cells (g := g) h hg
  rcases h.2 with ⟨rfl, h0⟩ | ⟨g, cap, cur, rfl, hB, hb, hnc, _⟩
  · exact ⟨none, 0, 0, rfl, h0, Nat.le_refl _, fun j hj => absurd hj (by omega)⟩
  · refine ⟨_, _, _, rfl, rfl, hnc, fun j hj => ⟨g, rfl, (Array.getElem?_eq_some_iff.1 hb).1, ?_⟩⟩
    have e := hcells g rfl j (.int .i64 zs[j]) (by rw [List.getElem?_map, List.getElem?_eq_getElem hj]; rfl)
    rwa [Go.WideShapes.add_plain, Nat.zero_add] at e
theorem IntsV.next {w w' : World} {v : Value} {zs : List Int} (h : IntsV w v zs) (k : Below w.heap.size w w') : IntsV w' v zs := by
  obtain ⟨a, n, c, rfl, hn, hc, hj⟩ := h
  refine ⟨a, n, c, rfl, hn, hc, fun j h => ?_⟩
  obtain ⟨g, ha, hg, hcell⟩ := hj j h
  exact ⟨g, ha, Nat.lt_of_lt_of_le hg k.size, by rw [k.cell (p := ⟨g, j, none⟩) hg]; exact hcell⟩
theorem infoI : ∃ i, Try.prog.info? 3 = some i ∧ i.zero = some (.int .i64 0) ∧ i.size = 1 ∧ i.bytes = 8 := info_parts (by kernel_rfl)
/-- append(v, y). -/
theorem wpList_append_int {ops : Array Oper} {rest : List Oper} {o : Oper} {a : Act} {Q : Exit → Act → World → Prop} (w : World) (hgd : o.guard = none) (s x : Operand)
    (ho : o.op = .call { callee := .builtin .append, args := #[s, x], argTypes := #[45, 45] }) (B : Nat) (v : Value) (l : List Int) (y : Int) (g c' : Nat) (hs : a.eval s = v) (hx : a.eval x = .slice (some ⟨g, 0, none⟩) 1 c')
    (hv : OwnI B w v l) (hc : w.cell? ⟨g, 0, none⟩ = some (.int .i64 y)) (hB : B ≤ w.heap.size) (hN : l.length ≤ 100000)
    (h : ∀ v' w', OwnI B w' v' (l ++ [y]) → Below B w w' → w.heap.size ≤ w'.heap.size → wpList Try.prog ops Q rest (a.put o.dst v') w') : wpList Try.prog ops Q (o :: rest) a w := by
  obtain ⟨i, hi, hz, hsz, hb⟩ := infoI
  refine wpList_append_own_at w hgd s x _ ho B 3 i _ 1 8 Try.underlying45 hi hz hsz hb rfl (by decide) v l.length (l.map (Value.int .i64)) hs hv ⟨g, 0, none⟩ 1 c' [.int .i64 y] hx rfl (fun j u hj => ?_) (fun u hu => ?_) (by unfold maxLen; omega) (by omega) hB fun v' w' h1 h2 _ _ => ?_
  · have hlt : j < 1 := (List.getElem?_eq_some_iff.1 hj).1
    obtain rfl : j = 0 := by omega
    rw [Go.WideShapes.add_plain, ← hj]
    exact hc
  · simp at hu; subst hu; rfl
  · refine h v' w' ?_ ((Below.refl B w).grown h2 hB fun k hk => (World.ownsRow.lt hv k hk).1) h2.size
    unfold OwnI
    rw [List.length_append, List.map_append]
    exact h1
end Go.Proofs.Ytpalgadokdcgnaa
