/-
  The law for a range over a function of two values: the second one, or both, are moved to slots.
  The document's example: polderlaw07.awake.
  What the laws that range over tries keep: a measure, a place, a text, and the answer, in boxes; and columns one device's of which are spoilt.
  Columns some of which are missing: what they come to (no program is named here).
-/
import Derived.Test.YtiffkbmcikiioaaGreatY08
import Derived.Test.YtiffkbmcikiioaaGreatY36
import Derived.Test.YtiffkbmcikiioaaGreatY20
import Derived.Test.YtiffkbmcikiioaaGreatY29

/- The law for a range over a function of two values: the second one, or both, are moved to slots. -/
namespace Go.Proofs.YtiffkbmcikiioaaGreat
set_option maxRecDepth 100000
open Go.RowKit

/-- for _, y := range: slot t2 is moved to slot d. -/
theorem wpIn_range_second (t1 t2 d : Nat) {F : Fence} {n : Nat} {P : Program} {α : Type} {g : Operand} {ps : Array Tmp} {assign body : Code} {Q : Exit → Act → World → Prop} {a : Act} {w : World}
    (hro : F.round = none) (h1 : 1 ≤ n) {gf : Nat} {lb : Array Value} (hg : a.eval g = .func (.func gf) #[] lb) (hFg : F.fn gf) (eg : ∀ args w, (callFunc gf args).run P w = .ok (.enter gf args) w)
    (v1 v2 : α → Value) {xs : List α} {w0 : World} {B : Nat} (hseq : HandsS F (n - 1) P gf lb (fun x => #[v1 x, v2 x]) xs B w0) (hb0 : Since B w0 w) (hps : ps.size = 2)
    (I : Nat → World → Prop) (Ix : Code → Nat → World → Prop) (hI : Stands w.heap.size I) (hIx : ∀ c, Stands w.heap.size (Ix c)) (hIK : ∀ k X, I k X → Since B w0 X) (h0 : I 0 w)
    (hassign : ∀ (l : Nat) (x : α) (W : World),
      assign.wpIn (F.inRound l) (n - 1 - 1) P (Exit.then (fun a' W' => a' = { tmps := ((a.tmps.setIfInBounds t1 (v1 x)).setIfInBounds t2 (v2 x)).setIfInBounds d (v2 x), defers := [] } ∧ W' = W) (fun _ _ _ => False)) { tmps := (ps.zip #[v1 x, v2 x]).foldl (fun t (p, v) => t.setIfInBounds p v) a.tmps, defers := [] } W)
    (hbody : ∀ (l k : Nat) (x : α) (W : World), xs[k]? = some x → I k W → body.wpIn (F.inRound l) (n - 1 - 1) P (leftBy w.heap.size I Ix (k + 1) W) { tmps := ((a.tmps.setIfInBounds t1 (v1 x)).setIfInBounds t2 (v2 x)).setIfInBounds d (v2 x), defers := [] } W)
    (hdone : ∀ (D : Nat) (W : World), w.heap.size ≤ D → I xs.length W → W.heap[D]? = some (.deferred (some [])) → Q .normal { a with defers := { target := .collected D, args := #[] } :: a.defers } W)
    (hstop : ∀ (D : Nat) (c : Code) (k : Nat) (W : World), w.heap.size ≤ D → k ≤ xs.length → Ix c k W → W.heap[D]? = some (.deferred (some [])) → c.wpIn F n P Q { a with defers := { target := .collected D, args := #[] } :: a.defers } W) :
    (Code.rangeFunc g ps assign body).wpIn F n P Q a w :=
  wpIn_range_handsS hro h1 hg hFg eg hseq hb0 (fun _ => hps.symm) I Ix hI hIx hIK h0 (fun x => { tmps := ((a.tmps.setIfInBounds t1 (v1 x)).setIfInBounds t2 (v2 x)).setIfInBounds d (v2 x), defers := [] })
    (fun l x W K hK => wpIn_mono (hassign l x W) (fun e a' W' h => by
      cases e with
      | normal => obtain ⟨rfl, rfl⟩ := h; exact hK
      | _ => exact h))
    hbody hdone hstop

/-- for x, y := range: slots t1 and t2 are moved to slots d1 and d2. -/
theorem wpIn_range_both (t1 t2 d1 d2 : Nat) {F : Fence} {n : Nat} {P : Program} {α : Type} {g : Operand} {ps : Array Tmp} {assign body : Code} {Q : Exit → Act → World → Prop} {a : Act} {w : World}
    (hro : F.round = none) (h1 : 1 ≤ n) {gf : Nat} {lb : Array Value} (hg : a.eval g = .func (.func gf) #[] lb) (hFg : F.fn gf) (eg : ∀ args w, (callFunc gf args).run P w = .ok (.enter gf args) w)
    (v1 v2 : α → Value) {xs : List α} {w0 : World} {B : Nat} (hseq : HandsS F (n - 1) P gf lb (fun x => #[v1 x, v2 x]) xs B w0) (hb0 : Since B w0 w) (hps : ps.size = 2)
    (I : Nat → World → Prop) (Ix : Code → Nat → World → Prop) (hI : Stands w.heap.size I) (hIx : ∀ c, Stands w.heap.size (Ix c)) (hIK : ∀ k X, I k X → Since B w0 X) (h0 : I 0 w)
    (hassign : ∀ (l : Nat) (x : α) (W : World),
      assign.wpIn (F.inRound l) (n - 1 - 1) P (Exit.then (fun a' W' => a' = { tmps := (((a.tmps.setIfInBounds t1 (v1 x)).setIfInBounds t2 (v2 x)).setIfInBounds d1 (v1 x)).setIfInBounds d2 (v2 x), defers := [] } ∧ W' = W) (fun _ _ _ => False)) { tmps := (ps.zip #[v1 x, v2 x]).foldl (fun t (p, v) => t.setIfInBounds p v) a.tmps, defers := [] } W)
    (hbody : ∀ (l k : Nat) (x : α) (W : World), xs[k]? = some x → I k W → body.wpIn (F.inRound l) (n - 1 - 1) P (leftBy w.heap.size I Ix (k + 1) W) { tmps := (((a.tmps.setIfInBounds t1 (v1 x)).setIfInBounds t2 (v2 x)).setIfInBounds d1 (v1 x)).setIfInBounds d2 (v2 x), defers := [] } W)
    (hdone : ∀ (D : Nat) (W : World), w.heap.size ≤ D → I xs.length W → W.heap[D]? = some (.deferred (some [])) → Q .normal { a with defers := { target := .collected D, args := #[] } :: a.defers } W)
    (hstop : ∀ (D : Nat) (c : Code) (k : Nat) (W : World), w.heap.size ≤ D → k ≤ xs.length → Ix c k W → W.heap[D]? = some (.deferred (some [])) → c.wpIn F n P Q { a with defers := { target := .collected D, args := #[] } :: a.defers } W) :
    (Code.rangeFunc g ps assign body).wpIn F n P Q a w :=
  wpIn_range_handsS hro h1 hg hFg eg hseq hb0 (fun _ => hps.symm) I Ix hI hIx hIK h0 (fun x => { tmps := (((a.tmps.setIfInBounds t1 (v1 x)).setIfInBounds t2 (v2 x)).setIfInBounds d1 (v1 x)).setIfInBounds d2 (v2 x), defers := [] })
    (fun l x W K hK => wpIn_mono (hassign l x W) (fun e a' W' h => by
      cases e with
      | normal => obtain ⟨rfl, rfl⟩ := h; exact hK
      | _ => exact h))
    hbody hdone hstop
end Go.Proofs.YtiffkbmcikiioaaGreat

/- The document's example: polderlaw07.awake. -/
namespace Go.Proofs.YtiffkbmcikiioaaGreat
set_option maxRecDepth 100000
open Go.RowKit Go.Shelf M
attribute [local go_sem] Oper.semAt_some

theorem ex7_cols : colsOf [(1, 3)] 0 0 2 = [⟨0, 16, true, 0⟩, ⟨1, 16, false, 0⟩, ⟨2, 16, false, 0⟩] := by rfl
theorem ex7_blk : Blk [(1, 3)] 24 0 0 2 := ⟨rightM_iff.1 (by decide), by decide, by decide, by decide, by decide⟩
theorem ex7_enc : encOf [(1, 3)] 0 0 2 (zeroB 128) = [zeroB 64, zeroB 64, zeroB 64] := by kernel_rfl
theorem ex7_devs : devsS [1, 2] = [1, 2] := by
  refine lt_ext _ _ (devsS_spec _).1 (by decide) fun x => (devsS_spec _).2 x
theorem ex7_tries : triesOf [(1, 3)] 24 0 0 2 [zeroB 64, ⟨#[]⟩, zeroB 64] = [(1, zeroB 128)] := by
  have h : triesOf [(1, 3)] 24 0 0 2 [zeroB 64, ⟨#[]⟩, zeroB 64] = triesP [⟨0, 16, true, 0⟩, ⟨1, 16, false, 0⟩, ⟨2, 16, false, 0⟩] [zeroB 64, ⟨#[]⟩, zeroB 64] (-1 :: devsS [1, 2]) := by kernel_rfl
  have h2 : triesP [⟨0, 16, true, 0⟩, ⟨1, 16, false, 0⟩, ⟨2, 16, false, 0⟩] [zeroB 64, ⟨#[]⟩, zeroB 64] [-1, 1, 2] = [(1, zeroB 128)] := by kernel_rfl
  rw [h, ex7_devs, h2]

/-- What stands while tries come: the answer's cell, the text, and how many have come. -/
structure AW (w w7 : World) (B cb cn : Nat) (Z : ByteArray) (k : Nat) (X : World) : Prop where
  since : Since B w7 X
  below : Below w.heap.size w X
  r : X.cell? ⟨w.heap.size, 0, none⟩ = some (.bool false)
  rf : X.frozen? ⟨w.heap.size, 0, none⟩ = false
  b : X.cell? ⟨cb, 0, none⟩ = some (.string Z)
  n : X.cell? ⟨cn, 0, none⟩ = some (.int .i64 (k : Int))
  nf : X.frozen? ⟨cn, 0, none⟩ = false
theorem Since.below {B : Nat} {W X Y : World} (h : Since B W X) (k : Below W.heap.size X Y) : Since B W Y :=
  ⟨Nat.le_trans h.size k.size, fun j hj hl => (k.block j hl).trans (h.same j hj hl)⟩
theorem AW.within {w w7 : World} {B cb cn : Nat} {Z : ByteArray} {k : Nat} {X Y : World} (h : AW w w7 B cb cn Z k X) (hb : Below w7.heap.size X Y) (h1 : w.heap.size < w7.heap.size) (h2 : cb < w7.heap.size) (h3 : cn < w7.heap.size) (_ : w.heap.size < cn) : AW w w7 B cb cn Z k Y :=
  ⟨h.since.below hb, h.below.trans (hb.mono (Nat.le_of_lt h1)), (hb.cell (p := ⟨w.heap.size, 0, none⟩) h1).trans h.r, (hb.frozen (p := ⟨w.heap.size, 0, none⟩) h1).trans h.rf, (hb.cell (p := ⟨cb, 0, none⟩) h2).trans h.b, (hb.cell (p := ⟨cn, 0, none⟩) h3).trans h.n, (hb.frozen (p := ⟨cn, 0, none⟩) h3).trans h.nf⟩

theorem AW.count {w w7 : World} {B cb cn : Nat} {Z : ByteArray} {k : Nat} {X : World} (h : AW w w7 B cb cn Z k X) (h1 : w.heap.size < cb) (h2 : cb < cn) (h3 : cn < B) (m : Int) (hm : m = ((k + 1 : Nat) : Int)) : AW w w7 B cb cn Z (k + 1) (X.setCell ⟨cn, 0, none⟩ (.int .i64 m)) := by
  subst hm
  refine ⟨h.since.setCell (p := ⟨cn, 0, none⟩) h3 _, h.below.setCell (p := ⟨cn, 0, none⟩) (by show w.heap.size ≤ cn; omega) _, ?_, ?_, ?_, ?_, ?_⟩
  · rw [World.cell?_setCell_other _ _ _ _ (by intro e; cases e; omega)]; exact h.r
  · rw [World.frozen?_setCell]; exact h.rf
  · rw [World.cell?_setCell_other _ _ _ _ (by intro e; cases e; omega)]; exact h.b
  · rw [World.cell?_setCell_same _ _ _ h.n]
  · rw [World.frozen?_setCell]; exact h.nf
/-- A function that told its answer, behind a range over a function. -/
theorem told {w X : World} {D : Nat} {b : Bool} (hD : w.heap.size < D) (hB : Below w.heap.size w X) (hr : X.cell? ⟨w.heap.size, 0, none⟩ = some (.bool false)) (hK : X.heap[D]? = some (.deferred (some []))) :
    (X.setCell ⟨w.heap.size, 0, none⟩ (.bool b)).heap[D]? = some (.deferred (some [])) ∧ Below w.heap.size w ((X.setCell ⟨w.heap.size, 0, none⟩ (.bool b)).putObj D (.deferred none)) ∧ ((X.setCell ⟨w.heap.size, 0, none⟩ (.bool b)).putObj D (.deferred none)).cell? ⟨w.heap.size, 0, none⟩ = some (.bool b) := by
  have h1 : (X.setCell ⟨w.heap.size, 0, none⟩ (.bool b)).heap[D]? = some (.deferred (some [])) := (Below.heap_setCell _ _ _ _ (by show D ≠ w.heap.size; omega)).trans hK
  have h2 : Below w.heap.size w (X.setCell ⟨w.heap.size, 0, none⟩ (.bool b)) := hB.setCell (p := ⟨w.heap.size, 0, none⟩) (Nat.le_refl _) _
  refine ⟨h1, below_putObj h2 (by omega) _, ?_⟩
  rw [(below_putObj (Below.refl D _) (Nat.le_refl D) (.deferred none)).cell (p := ⟨w.heap.size, 0, none⟩) hD, World.cell?_setCell_same _ _ _ hr]

end Go.Proofs.YtiffkbmcikiioaaGreat

/- What the laws that range over tries keep: a measure, a place, a text, and the answer, in boxes; and columns one device's of which are spoilt. -/
namespace Go.Proofs.YtiffkbmcikiioaaGreat
set_option maxRecDepth 100000
open Go.RowKit M

structure HQ (w0 w : World) (a : Option Addr) (n c : Nat) (sc : Int) (l : List (Int × Int)) (k t : Int) (s : ByteArray) : Prop where
  h : HeldP w0 w w0.heap.size (w0.heap.size + 1) a n c sc l k t
  tx : w.cell? ⟨w0.heap.size + 2, 0, none⟩ = some (.string s)
  r : w.cell? ⟨w0.heap.size + 3, 0, none⟩ = some (.bool false)
  rf : w.frozen? ⟨w0.heap.size + 3, 0, none⟩ = false
  lt : w0.heap.size + 3 < w.heap.size
theorem HQ.next {w0 w w' : World} {a : Option Addr} {n c : Nat} {sc : Int} {l : List (Int × Int)} {k t : Int} {s : ByteArray} (h : HQ w0 w a n c sc l k t s) (b : Below w.heap.size w w') : HQ w0 w' a n c sc l k t s :=
  ⟨h.h.next b, (b.cell (p := ⟨w0.heap.size + 2, 0, none⟩) (by show w0.heap.size + 2 < _; have := h.lt; omega)).trans h.tx, (b.cell (p := ⟨w0.heap.size + 3, 0, none⟩) h.lt).trans h.r, (b.frozen (p := ⟨w0.heap.size + 3, 0, none⟩) h.lt).trans h.rf, Nat.lt_of_lt_of_le h.lt b.size⟩
theorem HQ.start {w : World} {a : Option Addr} {n c : Nat} {sc : Int} {l : List (Int × Int)} (k t : Int) (s : ByteArray) (h : Meas w (.agg #[.slice a n c, .int .i64 sc]) l sc) :
    HQ w ((((w.alloc (.cells #[.slice a n c, .int .i64 sc] 24)).alloc (.cells #[.int .i64 k, .int .i64 t] 26)).alloc (.cells #[.string s] 9)).alloc (.cells #[.bool false] 4)) a n c sc l k t s :=
  ⟨((HeldP.start k t h).next (boxed _ _)).next (boxed _ _), box_kept (by simp) (boxed _ _), box_now _ _ _ (by simp), by
    have e : w.heap.size + 3 = (((w.alloc (.cells #[.slice a n c, .int .i64 sc] 24)).alloc (.cells #[.int .i64 k, .int .i64 t] 26)).alloc (.cells #[.string s] 9)).heap.size := by simp
    rw [e]; exact World.frozen?_alloc_at _ _ _ _ rfl, by simp⟩
theorem ColsAt.set {w : World} {g : Nat} {L : List C} (h : ColsAt w g L) {p : Addr} (hp : p.block ≠ g) (v : Value) : ColsAt (w.setCell p v) g L :=
  ⟨by simpa [World.setCell] using h.lt, fun j hj => IsC.of fun i hi => by
    rw [World.cell?_setCell_other _ _ _ _ (by intro e; exact hp (by rw [e]))]
    exact (h.at_ j hj).get i hi⟩

/-- Spoilt columns: of a Parity a device's, of a Mirror all others'. -/
structure Spo (L : List C) (f : Nat → ByteArray) (d : Int) (mir : Bool) (G : List ByteArray) : Prop where
  len : G.length = L.length
  at_ : ∀ j, j < L.length → G.getD j ⟨#[]⟩ = encAt L f j ∨ (((devAt L j == d) != mir) = true ∧ ((G.getD j ⟨#[]⟩).size = 0 ∨ (G.getD j ⟨#[]⟩).size = 64))
theorem Spo.start (L : List C) (f : Nat → ByteArray) (d : Int) (mir : Bool) : Spo L f d mir (encL L f) := ⟨encL_len L f, fun j hj => .inl (encL_getD L f j hj)⟩
theorem getD_set (G : List ByteArray) (i j : Nat) (y : ByteArray) (hi : i < G.length) : (G.set i y).getD j ⟨#[]⟩ = if i = j then y else G.getD j ⟨#[]⟩ := by
  by_cases e : i = j
  · subst e
    rw [List.getD_eq_getElem?_getD, List.getElem?_set_self hi, if_pos rfl]; rfl
  · rw [List.getD_eq_getElem?_getD, List.getElem?_set_ne e, if_neg e, List.getD_eq_getElem?_getD]
theorem Spo.set {L : List C} {f : Nat → ByteArray} {d : Int} {mir : Bool} {G : List ByteArray} (h : Spo L f d mir G) {i : Nat} (hi : i < L.length) {y : ByteArray} (hd : ((devAt L i == d) != mir) = true) (hy : y.size = 0 ∨ y.size = 64) : Spo L f d mir (G.set i y) := by
  refine ⟨by rw [List.length_set]; exact h.len, fun j hj => ?_⟩
  rw [getD_set G i j y (by rw [h.len]; exact hi)]
  by_cases e : i = j
  · subst e
    rw [if_pos rfl]
    exact .inr ⟨hd, hy⟩
  · rw [if_neg e]
    exact h.at_ j hj
theorem mem_getD {G : List ByteArray} {x : ByteArray} (h : x ∈ G) : ∃ j, j < G.length ∧ G.getD j ⟨#[]⟩ = x := by
  obtain ⟨j, hj, rfl⟩ := List.getElem_of_mem h
  exact ⟨j, hj, getD_some ⟨hj, rfl⟩⟩
section
variable {l : List (Int × Int)} {sc : Int} {k t z : Nat} {s : ByteArray} {kk : Int} {u : Nat} {L : List C} {f : Nat → ByteArray}
theorem Spo.sizes (h : Enc7 l sc k t z s kk u L f) {d : Int} {mir : Bool} {G : List ByteArray} (hS : Spo L f d mir G) : ∀ x ∈ G, x.size = 0 ∨ x.size = 64 := by
  intro x hx
  obtain ⟨j, hj, rfl⟩ := mem_getD hx
  rw [hS.len] at hj
  rcases hS.at_ j hj with e | ⟨_, e⟩
  · rw [e]; exact .inr (enc_size h.sound h.hf j hj)
  · exact e
theorem Enc7.dev_row (h : Enc7 l sc k t z s kk u L f) {i j : Nat} (hi : i < L.length) (hj : j < L.length) (hij : i ≠ j) (hr : rowAt L i = rowAt L j) : devAt L i ≠ devAt L j := by
  obtain ⟨R, hR⟩ := h.rows
  rw [rowAt_eq hi, rowAt_eq hj] at hr
  rw [devAt_eq hi, devAt_eq hj]
  rcases Nat.lt_or_ge i j with h1 | h1
  · exact hR.devs i j hi hj h1 hr
  · exact fun e => hR.devs j i hj hi (by omega) hr.symm e.symm
/-- A Parity one device's columns of which are spoilt: the text is among the tries. -/
theorem Enc7.oneP (h : Enc7 l sc k t z s kk u L f) (h1 : kk = 1) {d : Int} {G : List ByteArray} (hS : Spo L f d false G) : ∃ x, (x, s) ∈ triesOf l sc k t z G := by
  rw [h.tries hS.len (hS.sizes h), if_neg (by rw [h1]; decide)]
  have hag : ∀ j, j < L.length → devAt L j ≠ d → G.getD j ⟨#[]⟩ = encAt L f j := fun j hj hd => by
    rcases hS.at_ j hj with e | ⟨e, _⟩
    · exact e
    · have : (devAt L j == d) = false := by simpa using hd
      rw [this] at e
      cases e
  by_cases hex : ∃ j, j < L.length ∧ parAt L j = false ∧ devAt L j = d
  · obtain ⟨j0, hj0, hp0, hd0⟩ := hex
    refine ⟨d, ?_⟩
    unfold triesP
    rw [List.mem_filterMap]
    refine ⟨d, List.mem_cons_of_mem _ ((devsS_spec _).2 d |>.2 ?_), h.tryP h1 fun j hj hp => ?_⟩
    · refine List.mem_map.2 ⟨L[j0], ?_, by rw [← devAt_eq hj0]; exact hd0⟩
      unfold datL
      rw [List.mem_filter]
      exact ⟨List.getElem_mem _, by rw [← parAt_eq hj0, hp0]; rfl⟩
    · by_cases hd : devAt L j = d
      · rw [if_pos hd]
        refine h.agn h1 hj hp fun i hi hr hne => hag i hi fun e => ?_
        exact h.dev_row hi hj hne hr (by rw [e, hd])
      · rw [if_neg hd]
        exact hag j hj hd
  · refine ⟨-1, ?_⟩
    unfold triesP
    rw [List.mem_filterMap]
    refine ⟨-1, List.mem_cons_self, h.tryP h1 fun j hj hp => ?_⟩
    have h0 := h.blk.dev j (by rw [h.hL]; exact hj)
    have hL := h.hL
    subst hL
    rw [if_neg (by rw [devAt_eq hj]; omega)]
    exact hag j hj fun e => hex ⟨j, hj, hp, e⟩
/-- A Mirror one device's columns of which are right: the text is among the tries. -/
theorem Enc7.oneM (h : Enc7 l sc k t z s kk u L f) (h0 : kk = 0) {dn : Nat} (hd : dn < u) {G : List ByteArray} (hS : Spo L f (aheadL l k + (dn : Int)) true G) : ∃ x, (x, s) ∈ triesOf l sc k t z G := by
  rw [h.tries hS.len (hS.sizes h), if_pos h0]
  refine ⟨aheadL l k + (dn : Int), ?_⟩
  unfold triesM
  rw [List.mem_filterMap]
  refine ⟨dn, List.mem_range.2 hd, h.tryM h0 hS.len hd fun i hi => ?_⟩
  obtain ⟨_, hl, _⟩ := h.mir h0
  have hb : dn * z + z ≤ u * z := by rw [← Nat.succ_mul]; exact Nat.mul_le_mul_right _ hd
  have hj : dn * z + i < L.length := by rw [hl]; omega
  rcases hS.at_ _ hj with e | ⟨e, _⟩
  · exact e
  · rw [h.devM h0 hj] at e
    have hdv : (dn * z + i) / z = dn := by
      rw [Nat.add_comm, Nat.add_mul_div_right _ _ h.blk.z1, Nat.div_eq_of_lt hi, Nat.zero_add]
    rw [hdv] at e
    simp at e
end
end Go.Proofs.YtiffkbmcikiioaaGreat

/- Columns some of which are missing: what they come to (no program is named here). -/
namespace Go.Proofs.YtiffkbmcikiioaaGreat
set_option maxRecDepth 100000
open Go.RowKit M

/-- Some columns are missing, all others are as they are encoded. -/
structure Mis (L : List C) (f : Nat → ByteArray) (G : List ByteArray) : Prop where
  len : G.length = L.length
  at_ : ∀ j, j < L.length → G.getD j ⟨#[]⟩ = encAt L f j ∨ G.getD j ⟨#[]⟩ = ⟨#[]⟩
theorem Mis.start (L : List C) (f : Nat → ByteArray) : Mis L f (encL L f) := ⟨encL_len L f, fun j hj => .inl (encL_getD L f j hj)⟩
theorem Mis.set {L : List C} {f : Nat → ByteArray} {G : List ByteArray} (h : Mis L f G) {i : Nat} (hi : i < L.length) : Mis L f (G.set i ⟨#[]⟩) := by
  refine ⟨by rw [List.length_set]; exact h.len, fun j hj => ?_⟩
  rw [getD_set G i j _ (by rw [h.len]; exact hi)]
  by_cases e : i = j
  · rw [if_pos e]; exact .inr rfl
  · rw [if_neg e]; exact h.at_ j hj
/-- Is a column missing? -/
def isHole (G : List ByteArray) (j : Nat) : Bool := (G.getD j ⟨#[]⟩).size == 0
theorem mkB_hole {l : List ByteArray} {x : ByteArray} (h : x ∈ l) (hx : x.size = 0) : (mkB l).size = 0 := by
  unfold mkB
  split
  · rename_i hok
    rw [parB_size, ← ok_size hok x h, hx]
  · rfl
theorem hole_mem {l : List ByteArray} {x : ByteArray} (h : x ∈ l) (hx : x.size = 0) : holeL l = true := by
  unfold holeL
  rw [List.any_eq_true]
  exact ⟨x, h, by simp [hx]⟩
theorem no_hole {l : List ByteArray} (h : holeL l = false) {x : ByteArray} (hx : x ∈ l) : x.size ≠ 0 := fun e => by
  rw [hole_mem hx e] at h
  cases h
/-- Another column of a row is among those by which a column is made again. -/
theorem agn_mem {L : List C} {G : List ByteArray} {a j : Nat} (ha : a < L.length) (hj : j < L.length) (hr : rowAt L j = rowAt L a) (hne : j ≠ a) : G.getD j ⟨#[]⟩ ∈ (rowG L G (rowAt L a) L.length).eraseIdx (rowG L G (rowAt L a) a).length := by
  obtain ⟨r, h, hm⟩ := idx_split (q := fun j => rowAt L j == rowAt L a) (a := a) (by simp) L.length ha
  have hjm : j ∈ idx (fun j => rowAt L j == rowAt L a) L.length := idx_mem.2 ⟨hj, by simp [hr]⟩
  unfold rowG
  rw [h, List.length_map, List.map_append, List.map_cons, List.eraseIdx_append_of_length_le (by simp), List.length_map, Nat.sub_self, List.eraseIdx_zero, List.tail_cons, ← List.map_append]
  refine List.mem_map.2 ⟨j, ?_, rfl⟩
  rw [h] at hjm
  rcases List.mem_append.1 hjm with h1 | h1
  · exact List.mem_append_left _ h1
  · rcases List.mem_cons.1 h1 with h2 | h2
    · exact absurd h2 hne
    · exact List.mem_append_right _ h2
theorem wth_mem {L : List C} {G : List ByteArray} {d : Int} {j : Nat} (hj : j < L.length) (hp : parAt L j = false) : (if devAt L j = d then agn L G j else G.getD j ⟨#[]⟩) ∈ wth L G d L.length :=
  List.mem_map.2 ⟨j, idx_mem.2 ⟨hj, by simp [hp]⟩, rfl⟩
section
variable {l : List (Int × Int)} {sc : Int} {k t z : Nat} {s : ByteArray} {kk : Int} {u : Nat} {L : List C} {f : Nat → ByteArray}
theorem Mis.sizes (h : Enc7 l sc k t z s kk u L f) {G : List ByteArray} (hS : Mis L f G) : ∀ x ∈ G, x.size = 0 ∨ x.size = 64 := by
  intro x hx
  obtain ⟨j, hj, rfl⟩ := mem_getD hx
  rw [hS.len] at hj
  rcases hS.at_ j hj with e | e
  · rw [e]; exact .inr (enc_size h.sound h.hf j hj)
  · rw [e]; exact .inl rfl
theorem Mis.there {G : List ByteArray} (hS : Mis L f G) {j : Nat} (hj : j < L.length) (hne : (G.getD j ⟨#[]⟩).size ≠ 0) : G.getD j ⟨#[]⟩ = encAt L f j := by
  rcases hS.at_ j hj with e | e
  · exact e
  · rw [e] at hne; exact absurd rfl hne
theorem Enc7.lessP (h : Enc7 l sc k t z s kk u L f) (h1 : kk = 1) {G : List ByteArray} (hS : Mis L f G) : ∀ y ∈ triesOf l sc k t z G, y.2 = s := by
  rw [h.tries hS.len (hS.sizes h), if_neg (by rw [h1]; decide)]
  intro y hy
  unfold triesP at hy
  obtain ⟨d, _, hd⟩ := List.mem_filterMap.1 hy
  have hno : holeL (wth L G d L.length) = false := by
    unfold tryOf at hd
    cases hh : holeL (wth L G d L.length) with
    | false => rfl
    | true => rw [hh] at hd; cases hd
  have := h.tryP h1 (G := G) (d := d) fun j hj hp => by
    have hm := no_hole hno (wth_mem (d := d) hj hp)
    by_cases e : devAt L j = d
    · rw [if_pos e] at hm ⊢
      refine h.agn h1 hj hp fun i hi hr hne => hS.there hi fun e0 => hm ?_
      unfold Proofs.YtiffkbmcikiioaaGreat.agn
      exact mkB_hole (agn_mem hj hi hr hne) e0
    · rw [if_neg e] at hm ⊢
      exact hS.there hj hm
  rw [this] at hd
  cases hd
  rfl
theorem Enc7.noneP (h : Enc7 l sc k t z s kk u L f) (h1 : kk = 1) {G : List ByteArray} (hS : Mis L f G) {i j : Nat} (hi : i < L.length) (hj : j < L.length) (hij : i ≠ j) (hr : rowAt L i = rowAt L j) (hgi : isHole G i = true) (hgj : isHole G j = true) : triesOf l sc k t z G = [] := by
  rw [h.tries hS.len (hS.sizes h), if_neg (by rw [h1]; decide)]
  unfold isHole at hgi hgj
  rw [beq_iff_eq] at hgi hgj
  have key : ∀ i j, i < L.length → j < L.length → i ≠ j → rowAt L i = rowAt L j → (G.getD i ⟨#[]⟩).size = 0 → (G.getD j ⟨#[]⟩).size = 0 → parAt L i = false → ∀ d, tryOf d (wth L G d L.length) = none := by
    intro i j hi hj hij hr hgi hgj hp d
    have hh : holeL (wth L G d L.length) = true := by
      refine hole_mem (wth_mem (d := d) hi hp) ?_
      by_cases e : devAt L i = d
      · rw [if_pos e]
        unfold Proofs.YtiffkbmcikiioaaGreat.agn
        exact mkB_hole (agn_mem hi hj hr.symm (fun e => hij e.symm)) hgj
      · rw [if_neg e]
        exact hgi
    unfold tryOf
    rw [hh]
    rfl
  have hall : ∀ d, tryOf d (wth L G d L.length) = none := by
    cases hp : parAt L i with
    | false => exact key i j hi hj hij hr hgi hgj hp
    | true =>
      cases hq : parAt L j with
      | false => exact key j i hj hi (fun e => hij e.symm) hr.symm hgj hgi hq
      | true =>
        exfalso
        have hone := h.one h1 hi
        unfold pcN at hone
        have m1 : i ∈ idx (fun x => parAt L x && rowAt L x == rowAt L i) L.length := idx_mem.2 ⟨hi, by simp [hp]⟩
        have m2 : j ∈ idx (fun x => parAt L x && rowAt L x == rowAt L i) L.length := idx_mem.2 ⟨hj, by simp [hq, hr]⟩
        match hm : idx (fun x => parAt L x && rowAt L x == rowAt L i) L.length, hone with
        | [x], _ =>
          rw [hm] at m1 m2
          exact hij ((List.mem_singleton.1 m1).trans (List.mem_singleton.1 m2).symm)
  unfold triesP
  rw [List.filterMap_eq_nil_iff]
  exact fun d _ => hall d
/-- How many columns are missing of those that are with column i. -/
def missTo (L : List C) (G : List ByteArray) (mir : Bool) (i k : Nat) : Nat := (idx (fun j => isHole G j && (if mir then devAt L j == devAt L i else rowAt L j == rowAt L i)) k).length
theorem miss_zero {mir : Bool} {G : List ByteArray} {i n : Nat} (h : missTo L G mir i n = 0) {j : Nat} (hj : j < n) (hs : (if mir then devAt L j == devAt L i else rowAt L j == rowAt L i) = true) : isHole G j = false := by
  cases hh : isHole G j with
  | false => rfl
  | true =>
    have : j ∈ idx (fun j => isHole G j && (if mir then devAt L j == devAt L i else rowAt L j == rowAt L i)) n := idx_mem.2 ⟨hj, by rw [hh, hs]; rfl⟩
    rw [List.eq_nil_of_length_eq_zero h] at this
    cases this
theorem miss_none {mir : Bool} {G : List ByteArray} {i n : Nat} (h : ∀ j, j < n → (if mir then devAt L j == devAt L i else rowAt L j == rowAt L i) = true → isHole G j = false) : missTo L G mir i n = 0 := by
  unfold missTo
  rw [List.length_eq_zero_iff]
  unfold idx
  rw [List.filter_eq_nil_iff]
  intro j hj hc
  rw [Bool.and_eq_true] at hc
  rw [h j (List.mem_range.1 hj) hc.2] at hc
  exact absurd hc.1 (by decide)
theorem miss_two {mir : Bool} {G : List ByteArray} {i n : Nat} (h : 2 ≤ missTo L G mir i n) : ∃ a b, a < n ∧ b < n ∧ a ≠ b ∧ isHole G a = true ∧ isHole G b = true ∧ (if mir then devAt L a == devAt L i else rowAt L a == rowAt L i) = true ∧ (if mir then devAt L b == devAt L i else rowAt L b == rowAt L i) = true := by
  have hs : (idx (fun j => isHole G j && (if mir then devAt L j == devAt L i else rowAt L j == rowAt L i)) n).Pairwise (· < ·) := List.Pairwise.filter _ (List.pairwise_lt_range)
  unfold missTo at h
  match hm : idx (fun j => isHole G j && (if mir then devAt L j == devAt L i else rowAt L j == rowAt L i)) n, h with
  | a :: b :: r, _ =>
    rw [hm] at hs
    have hab : a < b := (List.pairwise_cons.1 hs).1 b (by simp)
    have h1 := idx_mem.1 (show a ∈ idx _ n by rw [hm]; simp)
    have h2 := idx_mem.1 (show b ∈ idx _ n by rw [hm]; simp)
    rw [Bool.and_eq_true] at h1 h2
    exact ⟨a, b, h1.1, h2.1, by omega, h1.2.1, h2.2.1, h1.2.2, h2.2.2⟩
theorem Enc7.lessM (h : Enc7 l sc k t z s kk u L f) (h0 : kk = 0) {G : List ByteArray} (hS : Mis L f G) : (∀ y ∈ triesOf l sc k t z G, y.2 = s) ∧ (0 < (triesOf l sc k t z G).length ↔ ∃ a, a < L.length ∧ missTo L G true a L.length = 0) := by
  rw [h.tries hS.len (hS.sizes h), if_pos h0]
  obtain ⟨_, hl, hu1, _⟩ := h.mir h0
  have hz := h.blk.z1
  have full : ∀ d, d < u → holeL (chunk G z d) = false → tryOf (devAt L (d * z)) (chunk G z d) = some (aheadL l k + (d : Int), s) := by
    intro d hd hno
    have hb : d * z + z ≤ u * z := by rw [← Nat.succ_mul]; exact Nat.mul_le_mul_right _ hd
    refine h.tryM h0 hS.len hd fun i hi => hS.there (by rw [hl]; omega) (no_hole hno ?_)
    rw [chunk_map (by rw [hS.len, hl]) hd]
    exact List.mem_map.2 ⟨i, List.mem_range.2 hi, rfl⟩
  refine ⟨fun y hy => ?_, ?_⟩
  · unfold triesM at hy
    obtain ⟨d, hd, hy⟩ := List.mem_filterMap.1 hy
    have hd := List.mem_range.1 hd
    have hno : holeL (chunk G z d) = false := by
      unfold tryOf at hy
      cases hh : holeL (chunk G z d) with
      | false => rfl
      | true => rw [hh] at hy; cases hy
    rw [full d hd hno] at hy
    cases hy
    rfl
  · rw [List.length_pos_iff_exists_mem]
    constructor
    · rintro ⟨y, hy⟩
      unfold triesM at hy
      obtain ⟨d, hd, hy⟩ := List.mem_filterMap.1 hy
      have hd := List.mem_range.1 hd
      have hno : holeL (chunk G z d) = false := by
        unfold tryOf at hy
        cases hh : holeL (chunk G z d) with
        | false => rfl
        | true => rw [hh] at hy; cases hy
      have hb : d * z + z ≤ u * z := by rw [← Nat.succ_mul]; exact Nat.mul_le_mul_right _ hd
      refine ⟨d * z, by rw [hl]; omega, miss_none fun j hj hsd => ?_⟩
      rw [if_pos rfl, beq_iff_eq, h.devM h0 hj, h.devM h0 (by rw [hl]; omega), Nat.mul_div_cancel _ hz] at hsd
      have hjd : j / z = d := by omega
      unfold isHole
      rw [beq_eq_false_iff_ne]
      refine no_hole hno ?_
      rw [chunk_map (by rw [hS.len, hl]) hd]
      refine List.mem_map.2 ⟨j % z, List.mem_range.2 (Nat.mod_lt _ hz), ?_⟩
      have := Nat.div_add_mod j z
      rw [hjd, Nat.mul_comm] at this
      rw [this]
    · rintro ⟨a, ha, hm⟩
      have hd : a / z < u := Nat.div_lt_of_lt_mul (by rw [Nat.mul_comm, ← hl]; exact ha)
      have hb : a / z * z + z ≤ u * z := by rw [← Nat.succ_mul]; exact Nat.mul_le_mul_right _ hd
      have hno : holeL (chunk G z (a / z)) = false := by
        unfold holeL
        rw [List.any_eq_false]
        intro x hx
        rw [chunk_map (by rw [hS.len, hl]) hd] at hx
        obtain ⟨i, hi, rfl⟩ := List.mem_map.1 hx
        have hi := List.mem_range.1 hi
        have hj : a / z * z + i < L.length := by rw [hl]; omega
        have := miss_zero hm hj (by
          rw [if_pos rfl, beq_iff_eq, h.devM h0 hj, h.devM h0 ha]
          have : (a / z * z + i) / z = a / z := by rw [Nat.add_comm, Nat.add_mul_div_right _ _ hz, Nat.div_eq_of_lt hi, Nat.zero_add]
          rw [this])
        unfold isHole at this
        simpa using this
      refine ⟨(aheadL l k + ((a / z : Nat) : Int), s), ?_⟩
      unfold triesM
      exact List.mem_filterMap.2 ⟨a / z, List.mem_range.2 hd, full _ hd hno⟩
end
end Go.Proofs.YtiffkbmcikiioaaGreat
