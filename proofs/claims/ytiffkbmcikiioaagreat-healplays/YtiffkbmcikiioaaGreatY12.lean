/-
  slices.DeleteFunc of columns, walked.
-/
import Derived.Test.YtiffkbmcikiioaaGreatY07

/- slices.DeleteFunc of columns, walked. -/
namespace Go.Proofs.YtiffkbmcikiioaaGreat
set_option maxRecDepth 100000
open Go.RowKit

theorem delete_none (w : World) (L : List C) (a : Option Addr) (n c : Nat) (hV : ColsV w (.slice a n c) L) (hn : n ≤ 100000) (hp : ∀ j (h : j < L.length), L[j].par = false) :
    Calls Tryz.prog 93 #[.slice a n c, .func (.func 95) #[] #[]] w fun e w' => e = .returned (.slice a n c) ∧ Below w.heap.size w w' := by
  have HI := Lib.hid (index_none w L a n c hV hn hp)
  clear hV hp
  go_enter Tryz.func93, Tryz.ntmps93
  go_wp2_with fail
  refine HI.out.mono ?_
  rintro e w1 ⟨rfl, b1⟩
  go_wp2
  go_ret
  exact ⟨rfl, b1⟩

/-- Block g is a row with room for c columns, of which the first are l. -/
structure RowC (w : World) (g c : Nat) (l : List C) : Prop where
  shape : ∃ cur : Array Value, w.heap[g]? = some (.cells cur 75 (0, 0)) ∧ cur.size = c * 4
  at_ : ∀ j (h : j < l.length), IsC w g (j * 4) l[j]
  le : l.length ≤ c
theorem RowC.lt {w : World} {g c : Nat} {l : List C} (h : RowC w g c l) : g < w.heap.size := by
  obtain ⟨cur, h1, _⟩ := h.shape
  exact (Array.getElem?_eq_some_iff.1 h1).1
theorem RowC.frozen {w : World} {g c : Nat} {l : List C} (h : RowC w g c l) (o : Nat) : w.frozen? ⟨g, o, none⟩ = false := by
  obtain ⟨cur, h1, _⟩ := h.shape
  simp [World.frozen?, h1]
theorem own_row {w : World} {B : Nat} {v : Value} {l : List C} (h : OwnC B w v l) (hl : 0 < l.length) : ∃ g c, v = .slice (some ⟨g, 0, none⟩) l.length c ∧ l.length ≤ c ∧ c ≤ maxLen ∧ B ≤ g ∧ RowC w g c l := by
  obtain ⟨g, c, rfl, hc, hB, hA⟩ := h.some hl
  rcases h.2 with ⟨h0, _⟩ | ⟨g', cap, cur, hv, hB', hb, hnc, hm, hs, _⟩
  · cases h0
  · cases hv
    exact ⟨g, c, rfl, hc, hm, hB, ⟨cur, hb, hs⟩, hA.at_, hc⟩
theorem RowC.next {w w' : World} {B g c : Nat} {l : List C} (h : RowC w g c l) (hg : g < B) (k : Below B w w') : RowC w' g c l := by
  obtain ⟨cur, h1, h2⟩ := h.shape
  exact ⟨⟨cur, by rw [k.block g hg]; exact h1, h2⟩, fun j hj => (h.at_ j hj).below hg k, h.le⟩

theorem RowC.shaped {w : World} {g c : Nat} (h : ∃ cur : Array Value, w.heap[g]? = some (.cells cur 75 (0, 0)) ∧ cur.size = c * 4) (a : Addr) (v : Value) : ∃ cur : Array Value, (w.setCell a v).heap[g]? = some (.cells cur 75 (0, 0)) ∧ cur.size = c * 4 := by
  obtain ⟨cur, h1, h2⟩ := h
  by_cases e : a.block = g
  · refine ⟨if a.spot.isSome then cur else cur.setIfInBounds a.off v, ?_, ?_⟩
    · simp only [World.setCell, Array.getElem?_modify, e, if_true, h1]
      simp
    · split <;> simp [h2]
  · exact ⟨cur, by rw [Below.heap_setCell _ _ _ _ (fun e' => e e'.symm)]; exact h1, h2⟩
theorem RowC.shapeds {g c : Nat} (b : Nat) : ∀ (vs : List Value) (o : Nat) (w : World), (∃ cur : Array Value, w.heap[g]? = some (.cells cur 75 (0, 0)) ∧ cur.size = c * 4) → ∃ cur : Array Value, (w.setCells b o vs).heap[g]? = some (.cells cur 75 (0, 0)) ∧ cur.size = c * 4
  | [], _, _, h => h
  | v :: r, o, _, h => RowC.shapeds b r (o + 1) _ (RowC.shaped h _ v)
theorem RowC.cell {w : World} {g c : Nat} {l : List C} (h : RowC w g c l) {o : Nat} (ho : o < c * 4) : (w.cell? ⟨g, o, none⟩).isSome = true := by
  obtain ⟨cur, h1, h2⟩ := h.shape
  simp [World.cell?, h1]
  omega
theorem RowC.set {w : World} {g c : Nat} {l : List C} (h : RowC w g c l) (i : Nat) (hi : i < l.length) (x : C) : RowC (w.setCells g (i * 4) (C.cells x)) g c (l.set i x) := by
  have hle := h.le
  refine ⟨RowC.shapeds _ _ _ _ h.shape, fun k hk => IsC.of fun j hj => ?_, by simpa using h.le⟩
  rw [List.length_set] at hk
  by_cases e : i = k
  · subst e
    rw [World.cell?_setCells_in g (C.cells x) (i * 4) w (fun j hj => h.cell (by have : j < 4 := hj; omega)) j hj, List.getElem?_eq_getElem (show j < (C.cells (l.set i x)[i]).length from hj)]
    congr 1
    simp
    rfl
  · rw [World.cell?_setCells_out g (C.cells x) (i * 4) w _ (fun _ _ => by show _ < _ ∨ _ + 4 ≤ _; dsimp only; omega), List.getElem_set_ne e]
    exact (h.at_ k hk).get j hj
theorem setCells_below {B g : Nat} (hB : B ≤ g) : ∀ (vs : List Value) (o : Nat) (w : World), Below B w (w.setCells g o vs)
  | [], _, _ => Below.refl _ _
  | v :: r, o, w => ((Below.refl B w).setCell (p := ⟨g, o, none⟩) hB v).trans (setCells_below hB r (o + 1) _)
abbrev zC : Value := .agg #[.int .i64 0, .int .i64 0, .bool false, .int .i64 0]
theorem zero_col (w : World) : (zeroValue 75).run Tryz.prog w = .ok zC w := by kernel_rfl
theorem zeros_one (n : Nat) : ∀ v ∈ (Builtin.zeroCells zC.cells n).toList, v.oneCell' = true := by
  intro v hv
  simp [Builtin.zeroCells, Value.cells] at hv
  obtain ⟨i, _, h⟩ := hv
  have h4 : i % 4 < 4 := Nat.mod_lt _ (by decide)
  generalize i % 4 = q at h h4
  match q, h4 with
  | 0, _ => simp at h; subst h; rfl
  | 1, _ => simp at h; subst h; rfl
  | 2, _ => simp at h; subst h; rfl
  | 3, _ => simp at h; subst h; rfl
/-- clear of a slice of columns. -/
theorem run_clear_col (w : World) (ty : TypeId) (b o n c : Nat) (hn : 0 < n) (hc : ∀ j, j < n * 4 → (w.cell? ⟨b, o + j, none⟩).isSome = true) (hf : ∀ j, w.frozen? ⟨b, o + j, none⟩ = false) :
    (Builtin.clear_ #[66] ty #[.slice (some ⟨b, o, none⟩) n c]).run Tryz.prog w = .ok (.tuple #[]) (w.setCells b o (Builtin.zeroCells zC.cells n).toList) := by
  have hlen : (Builtin.zeroCells zC.cells n).toList.length = n * 4 := by
    rw [Array.length_toList, size_zeroCells]; rfl
  have hst := run_storeCells_cells (P := Tryz.prog) b o (Builtin.zeroCells zC.cells n).toList 0 w (by rw [hlen]; simpa using hc) (fun j _ => by simpa using hf j) (zeros_one n)
  simp only [Nat.add_zero] at hst
  obtain ⟨m, rfl⟩ : ∃ m, n = m + 1 := ⟨n - 1, by omega⟩
  simp [Builtin.clear_, run_underlying Tryz.underlying66]
  rw [hst]
  rfl

theorem keep_step {L X : List C} {i j n : Nat} {x : C} (h1 : X.length = n) (h2 : X.take i = (L.take j).filter (fun x => !x.par)) (h3 : ∀ m, j ≤ m → X[m]? = L[m]?) (hij : i < j) (hj : j < n) (hx : X[j]? = some x) (hp : x.par = false) :
    (X.set i x).length = n ∧ (X.set i x).take (i + 1) = (L.take (j + 1)).filter (fun x => !x.par) ∧ ∀ m, j + 1 ≤ m → (X.set i x)[m]? = L[m]? := by
  refine ⟨by simpa using h1, ?_, fun m hm => ?_⟩
  · have hLj : L[j]? = some x := by rw [← h3 j (Nat.le_refl _)]; exact hx
    rw [List.take_add_one, List.take_set_of_le (Nat.le_refl _), List.getElem?_set_self (by omega), h2, List.take_add_one, hLj, List.filter_append]
    simp [hp]
  · rw [List.getElem?_set_ne (by omega)]
    exact h3 m (by omega)
theorem drop_step {L X : List C} {i j n : Nat} {x : C} (h2 : X.take i = (L.take j).filter (fun x => !x.par)) (h3 : ∀ m, j ≤ m → X[m]? = L[m]?) (hx : X[j]? = some x) (hp : x.par = true) (h1 : X.length = n) :
    X.length = n ∧ X.take i = (L.take (j + 1)).filter (fun x => !x.par) ∧ ∀ m, j + 1 ≤ m → X[m]? = L[m]? := by
  refine ⟨h1, ?_, fun m hm => h3 m (by omega)⟩
  have hLj : L[j]? = some x := by rw [← h3 j (Nat.le_refl _)]; exact hx
  rw [h2, List.take_add_one, hLj, List.filter_append]
  simp [hp]

set_option maxHeartbeats 1000000 in
theorem delete_some (w : World) (L : List C) (g n c : Nat) (hR : RowC w g c L) (hl : L.length = n) (hn : n ≤ 100000) (hc : c ≤ maxLen) (h0 : 0 < L.length) (hp : L[0].par = true) :
    Calls Tryz.prog 93 #[.slice (some ⟨g, 0, none⟩) n c, .func (.func 95) #[] #[]] w fun e w' => e = .returned (.slice (some ⟨g, 0, none⟩) (L.filter fun x => !x.par).length c) ∧ RowC w' g c (L.filter fun x => !x.par) ∧ ∀ B, B ≤ g → Below B w w' := by
  have HI := Lib.hid (index_zero w L (some ⟨g, 0, none⟩) n c ⟨_, _, _, rfl, hl, fun j h => ⟨g, rfl, hR.lt, hR.at_ j h⟩⟩ hn h0 hp)
  have HR := Lib.hid hR
  have HL := Lib.hid hl
  unfold maxLen at hc
  have hnc : n ≤ c := by rw [← hl]; exact hR.le
  have HP0 : Hid (∃ x, L[0]? = some x ∧ x.par = true) := Lib.hid ⟨_, List.getElem?_eq_getElem h0, hp⟩
  clear hR hl hp
  go_enter Tryz.func93, Tryz.ntmps93
  go_wp2_with fail
  refine HI.out.mono ?_
  rintro e w1 ⟨rfl, b1⟩
  have HR1 := Lib.hid (HR.out.next HR.out.lt b1)
  have hn0 : 0 < n := by rw [← HL.out]; exact h0
  go_wp2_with fail
  go_loopw [5, 6] (fun i5 i6 wr => ∃ (i j : Nat) (X : List C), i < j ∧ j ≤ n ∧ i5 = .int .i64 (i : Int) ∧ i6 = .int .i64 (j : Int) ∧ Hid (X.length = n ∧ X.take i = (L.take j).filter (fun x => !x.par) ∧ ∀ m, j ≤ m → X[m]? = L[m]?) ∧ Hid (RowC wr g c X) ∧ Hid (∀ B, B ≤ g → Below B w wr)) (fun _ j _ => n - (intOf j).toNat)
  case atStart =>
    refine ⟨0, 1, L, by omega, hn0, rfl, rfl, Lib.hid ⟨HL.out, ?_, fun _ _ => rfl⟩, HR1, Lib.hid fun B hB => b1.mono (by have := HR.out.lt; omega)⟩
    obtain ⟨x, h1, h2⟩ := HP0.out
    rw [List.take_zero, List.take_add_one, h1]
    simp [h2]
  case round =>
    obtain ⟨i, j, X, hij, hjn, rfl, rfl, HX, HRX, HB⟩ := hrel
    by_cases hjl : j < n
    · obtain ⟨x, hx⟩ : ∃ x, X[j]'(by rw [HX.out.1]; exact hjl) = x := ⟨_, rfl⟩
      have hCx := HRX.out.at_ j (by rw [HX.out.1]; exact hjl)
      have hXi := HRX.out.at_ i (by rw [HX.out.1]; omega)
      rw [hx] at hCx
      obtain ⟨e0, e1, e2, e3⟩ := hCx
      obtain ⟨y, hy⟩ : ∃ y, X[i]'(by rw [HX.out.1]; omega) = y := ⟨_, rfl⟩
      rw [hy] at hXi
      have f0 := HRX.out.frozen (i * 4)
      have f1 := HRX.out.frozen (i * 4 + 1)
      have f2 := HRX.out.frozen (i * 4 + 2)
      have f3 := HRX.out.frozen (i * 4 + 3)
      obtain ⟨y0, y1, y2, y3⟩ := hXi
      have HXJ : Hid (∃ h : j < X.length, X[j] = x) := Lib.hid ⟨_, hx⟩
      clear hx hy
      have hlt := HRX.out.lt
      cases hpx : x.par with
      | true =>
        rw [hpx] at e2
        have HPX := Lib.hid hpx
        clear hpx
        have hI := Lib.hid (isPar (wr.alloc (.cells #[.int .i64 x.dev, .int .i64 x.at_, .bool true, .int .i64 x.row] 75)) x)
        go_wp2_with fail
        refine (by have := hI.out; rw [HPX.out] at this; exact this : Calls Tryz.prog 95 #[.agg #[.int .i64 x.dev, .int .i64 x.at_, .bool true, .int .i64 x.row]] (wr.alloc (.cells #[.int .i64 x.dev, .int .i64 x.at_, .bool true, .int .i64 x.row] 75)) fun e w' => e = .returned (.bool true) ∧ Below (wr.alloc (.cells #[.int .i64 x.dev, .int .i64 x.at_, .bool true, .int .i64 x.row] 75)).heap.size (wr.alloc (.cells #[.int .i64 x.dev, .int .i64 x.at_, .bool true, .int .i64 x.row] 75)) w').mono ?_
        rintro e w2 ⟨rfl, b2⟩
        have BB := Lib.hid (next (boxed _ _) b2)
        clear e0 e1 e2 e3 y0 y1 y2 y3 f0 f1 f2 f3 b2
        go_wp2
        go_roundw
        case rel =>
          refine ⟨i, j + 1, X, by omega, by omega, rfl, by go_num, Lib.hid ?_, Lib.hid (HRX.out.next HRX.out.lt BB.out), Lib.hid fun B hB => (HB.out B hB).trans (BB.out.mono (by omega))⟩
          obtain ⟨h1, h2, h3⟩ := HX.out
          obtain ⟨hh, e⟩ := HXJ.out
          exact drop_step h2 h3 (by rw [List.getElem?_eq_getElem hh, e]) HPX.out h1
        case measure => simp [intOf]; omega
      | false =>
        rw [hpx] at e2
        have HPX := Lib.hid hpx
        clear hpx
        have hI := Lib.hid (isPar (wr.alloc (.cells #[.int .i64 x.dev, .int .i64 x.at_, .bool false, .int .i64 x.row] 75)) x)
        go_wp2_with fail
        refine (by have := hI.out; rw [HPX.out] at this; exact this : Calls Tryz.prog 95 #[.agg #[.int .i64 x.dev, .int .i64 x.at_, .bool false, .int .i64 x.row]] (wr.alloc (.cells #[.int .i64 x.dev, .int .i64 x.at_, .bool false, .int .i64 x.row] 75)) fun e w' => e = .returned (.bool false) ∧ Below (wr.alloc (.cells #[.int .i64 x.dev, .int .i64 x.at_, .bool false, .int .i64 x.row] 75)).heap.size (wr.alloc (.cells #[.int .i64 x.dev, .int .i64 x.at_, .bool false, .int .i64 x.row] 75)) w').mono ?_
        rintro e w2 ⟨rfl, b2⟩
        have hv : IsC w2 wr.heap.size 0 x := by
          refine IsC.below (w := wr.alloc (.cells #[.int .i64 x.dev, .int .i64 x.at_, .bool false, .int .i64 x.row] 75)) ⟨by simp, by simp, by simp [HPX.out], by simp⟩ (by simp) b2
        obtain ⟨v0, v1, v2, v3⟩ := hv
        rw [HPX.out] at v2
        have bb := next (boxed _ _) b2
        have r0 := (bb.cell (p := ⟨g, i * 4, none⟩) hlt).trans y0
        have r1 := (bb.cell (p := ⟨g, i * 4 + 1, none⟩) hlt).trans y1
        have r2 := (bb.cell (p := ⟨g, i * 4 + 2, none⟩) hlt).trans y2
        have r3 := (bb.cell (p := ⟨g, i * 4 + 3, none⟩) hlt).trans y3
        have z0 := (bb.frozen (p := ⟨g, i * 4, none⟩) hlt).trans f0
        have z1 := (bb.frozen (p := ⟨g, i * 4 + 1, none⟩) hlt).trans f1
        have z2 := (bb.frozen (p := ⟨g, i * 4 + 2, none⟩) hlt).trans f2
        have z3 := (bb.frozen (p := ⟨g, i * 4 + 3, none⟩) hlt).trans f3
        have BB := Lib.hid bb
        clear e0 e1 e2 e3 y0 y1 y2 y3 f0 f1 f2 f3 b2 bb
        go_wp2
        go_roundw
        case rel =>
          have hset := (HRX.out.next HRX.out.lt BB.out).set i (by rw [HX.out.1]; omega) x
          have ew : w2.setCells g (i * 4) (C.cells x) = (((w2.setCell ⟨g, i * 4, none⟩ (.int .i64 x.dev)).setCell ⟨g, i * 4 + 1, none⟩ (.int .i64 x.at_)).setCell ⟨g, i * 4 + 2, none⟩ (.bool false)).setCell ⟨g, i * 4 + 3, none⟩ (.int .i64 x.row) := by rw [← HPX.out]; rfl
          have hbel := fun B (hB : B ≤ g) => setCells_below hB (C.cells x) (i * 4) w2
          rw [ew] at hset hbel
          refine ⟨i + 1, j + 1, X.set i x, by omega, by omega, by go_num, by go_num, Lib.hid ?_, Lib.hid hset, Lib.hid fun B hB => ((HB.out B hB).trans (BB.out.mono (by omega))).trans (hbel B hB)⟩
          obtain ⟨h1, h2, h3⟩ := HX.out
          obtain ⟨hh, e⟩ := HXJ.out
          exact keep_step h1 h2 h3 hij hjl (by rw [List.getElem?_eq_getElem hh, e]) HPX.out
        case measure => simp [intOf]; omega
    · obtain rfl : j = n := by omega
      have hin : i < j := hij
      have hic : i < c := by omega
      have hci : ¬ c = i := by omega
      obtain ⟨zs, hcl⟩ : ∃ zs : List Value, ∀ ty, (Builtin.clear_ #[66] ty #[.slice (some ⟨g, i * 4, none⟩) (j - i) (c - i)]).run Tryz.prog wr = .ok (.tuple #[]) (wr.setCells g (i * 4) zs) := ⟨_, fun ty => run_clear_col wr ty g (i * 4) (j - i) (c - i) (by omega) (fun m hm => HRX.out.cell (by have := HX.out.1; have := HRX.out.le; omega)) (fun m => HRX.out.frozen _)⟩
      have q0 : (j : Int) - i = ((j - i : Nat) : Int) := by omega
      go_wp2
      go_ret
      obtain ⟨h1, h2, h3⟩ := HX.out
      have e : L.filter (fun x => !x.par) = X.take i := by rw [h2, ← HL.out, List.take_length]
      have hlen : (X.take i).length = i := by rw [List.length_take]; omega
      rw [e, hlen]
      refine ⟨rfl, ⟨RowC.shapeds _ _ _ _ HRX.out.shape, fun m hm => IsC.of fun q hq => ?_, by rw [hlen]; omega⟩, fun B hB => (HB.out B hB).trans (setCells_below hB _ _ _)⟩
      rw [hlen] at hm
      rw [World.cell?_setCells_out g zs (i * 4) wr _ (fun _ _ => by dsimp only; omega), List.getElem_take]
      exact (HRX.out.at_ m (by omega)).get q hq
end Go.Proofs.YtiffkbmcikiioaaGreat
