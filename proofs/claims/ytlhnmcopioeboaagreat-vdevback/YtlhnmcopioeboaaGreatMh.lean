/-
  The document's Of, Text, Fits (polderref06, polderref07), of any block.
  The document's Failed and Lost; how many devices of a block aren't here.
  The law for a range over a function of two values: the second one, or both, are moved to slots.
  The document's example: polderlaw07.awake.
  What the laws that range over tries keep: a measure, a place, a text, and the answer, in boxes; and columns one device's of which are spoilt.
  Columns some of which are missing: what they come to (no program is named here).
  What a block reads as raw that was written to devices some of which aren't here; just when it is among the tries (no program is named here).
-/
import Derived.Test.YtlhnmcopioeboaaGreatMg

/- The document's Of, Text, Fits (polderref06, polderref07), of any block. -/
namespace Go.Proofs.YtlhnmcopioeboaaGreat
set_option maxRecDepth 100000
open Go.RowKit M

theorem refOf_any (l : List (Int × Int)) (sc : Int) (v : Value) (w : World) (h : Meas w v l sc) (k t z : Nat) (hB : Blk l sc k t z) :
    Calls Tryz.prog 9 #[v, .agg #[.int .i64 (k : Int), .int .i64 (t : Int)], .int .i64 (z : Int)] w fun e w' => ∃ v', e = .returned v' ∧ OwnC w.heap.size w' v' (colsOf l k t z) ∧ Below w.heap.size w w' := by
  obtain ⟨kk, u, hK⟩ := hB.kinded
  have hk := hB.hk
  have hlk : l[k] = (kk, (u : Int)) := by rw [← getD_at hk]; exact hK.grp
  have hfit := hB.fit
  have hb := hB.bounds
  have hs1 := hB.right.s1
  have htk := takesG_pos l[k] z (by have := hB.z1; omega) (by have := hB.z4; omega)
  rcases hK.ok with ⟨rfl, _, _, e, _⟩ | ⟨rfl, _, _, e, _⟩
  · have ht : (t : Int) ≤ 4096 := by
      rw [hlk] at hfit htk
      have hg : gives (0, (u : Int)) sc ≤ sc := by unfold gives; simp; omega
      omega
    rw [e]
    exact refOf_mir l sc v w h hB.right k hk u hlk t (by omega) ht z hB.z4
  · rw [e]
    exact refOf_par l sc v w h hB.right k hk u hlk t (by omega) z hB.z4

/-- Is a text of N bytes a block's? -/
def textB (N : Nat) : Bool := decide (0 < N) && decide (N ≤ 256) && decide (N % 64 = 0)
theorem text_may (l : List (Int × Int)) (sc k t : Int) (N : Nat) : (textB N && mayL l sc k t ((N / 64 : Nat) : Int)) = mayT l sc k t N := by
  unfold mayT
  cases hm : mayL l sc k t ((N / 64 : Nat) : Int) with
  | false => simp
  | true =>
    obtain ⟨k', t', z', _, _, hz, hB⟩ := mayL_iff.1 hm
    have h1 := hB.z1
    have h4 := hB.z4
    rw [Bool.and_true, Bool.and_true]
    unfold textB
    by_cases h : N % 64 = 0
    · simp [h]; omega
    · simp [h]
end Go.Proofs.YtlhnmcopioeboaaGreat

/- The document's Failed and Lost; how many devices of a block aren't here. -/
namespace Go.Proofs.YtlhnmcopioeboaaGreat
set_option maxRecDepth 100000
open Go.RowKit Go.Maps M

/-- Has one of the first m columns the device d? -/
def hasD (L : List C) (d : Nat) : Nat → Bool
  | 0 => false
  | m + 1 => hasD L d m || decide (devN L m = d)
theorem hasD_iff {L : List C} {d m : Nat} : hasD L d m = true ↔ ∃ j, j < m ∧ devN L j = d := by
  induction m with
  | zero => simp [hasD]
  | succ m ih =>
    rw [hasD, Bool.or_eq_true, ih, decide_eq_true_iff]
    constructor
    · rintro (⟨j, hj, e⟩ | e)
      · exact ⟨j, by omega, e⟩
      · exact ⟨m, by omega, e⟩
    · rintro ⟨j, hj, e⟩
      by_cases h : j = m
      · subst h; exact .inr e
      · exact .inl ⟨j, by omega, e⟩
/-- How many of the first k devices have a column, and aren't here. -/
def lackN (L : List C) (hr : Nat → Bool) : Nat → Nat
  | 0 => 0
  | k + 1 => if hasD L k L.length && !hr k then lackN L hr k + 1 else lackN L hr k
theorem lackN_eq (L : List C) (hr : Nat → Bool) (k : Nat) : lackN L hr k = ((List.range k).filter fun d => hasD L d L.length && !hr d).length := by
  induction k with
  | zero => rfl
  | succ k ih =>
    rw [lackN, List.range_succ, List.filter_append, List.length_append, ih]
    cases h : (hasD L k L.length && !hr k) <;> simp [h]
theorem faTo_nodup (hr : Nat → Bool) (L : List C) (m : Nat) : (faTo hr L m).Nodup ∧ ∀ d, d ∈ faTo hr L m ↔ (∃ j, j < m ∧ devN L j = d) ∧ hr d = false := by
  induction m with
  | zero => exact ⟨List.nodup_nil, fun d => by simp [faTo]⟩
  | succ m ih =>
    obtain ⟨h1, h2⟩ := ih
    rw [faTo]
    cases hh : hr (devN L m) with
    | true =>
      rw [if_pos rfl]
      refine ⟨h1, fun d => (h2 d).trans ⟨fun ⟨⟨j, hj, e⟩, hd⟩ => ⟨⟨j, by omega, e⟩, hd⟩, fun ⟨⟨j, hj, e⟩, hd⟩ => ⟨?_, hd⟩⟩⟩
      by_cases ej : j = m
      · subst ej
        rw [e, hd] at hh
        cases hh
      · exact ⟨j, by omega, e⟩
    | false =>
      rw [if_neg (by simp)]
      unfold putN
      split
      · rename_i hm
        refine ⟨h1, fun d => (h2 d).trans ⟨fun ⟨⟨j, hj, e⟩, hd⟩ => ⟨⟨j, by omega, e⟩, hd⟩, fun ⟨⟨j, hj, e⟩, hd⟩ => ?_⟩⟩
        by_cases ej : j = m
        · subst ej
          rw [← e]
          exact (h2 _).1 hm
        · exact ⟨⟨j, by omega, e⟩, hd⟩
      · rename_i hm
        refine ⟨List.nodup_append.2 ⟨h1, by simp, fun a ha b hb => by rw [List.mem_singleton.1 hb]; intro e; exact hm (e ▸ ha)⟩, fun d => ?_⟩
        rw [List.mem_append, List.mem_singleton, h2]
        constructor
        · rintro (⟨⟨j, hj, e⟩, hd⟩ | rfl)
          · exact ⟨⟨j, by omega, e⟩, hd⟩
          · exact ⟨⟨m, by omega, rfl⟩, hh⟩
        · rintro ⟨⟨j, hj, e⟩, hd⟩
          by_cases ej : j = m
          · subst ej; exact .inr e.symm
          · exact .inl ⟨⟨j, by omega, e⟩, hd⟩
theorem faTo_lack (hr : Nat → Bool) (L : List C) (n : Nat) (hn : ∀ j, j < L.length → devN L j < n) : (faTo hr L L.length).length = lackN L hr n := by
  rw [lackN_eq]
  obtain ⟨h1, h2⟩ := faTo_nodup hr L L.length
  apply List.Perm.length_eq
  rw [List.perm_ext_iff_of_nodup h1 (List.nodup_range.filter _)]
  intro d
  rw [h2, List.mem_filter, List.mem_range, Bool.and_eq_true, hasD_iff, Bool.not_eq_true']
  constructor
  · rintro ⟨⟨j, hj, e⟩, hd⟩
    exact ⟨by rw [← e]; exact hn j hj, ⟨j, hj, e⟩, hd⟩
  · rintro ⟨_, h, hd⟩
    exact ⟨h, hd⟩
theorem lackN_le (L : List C) (hr : Nat → Bool) (k : Nat) : lackN L hr k ≤ k := by
  induction k with
  | zero => exact Nat.le_refl _
  | succ k ih => rw [lackN]; split <;> omega
end Go.Proofs.YtlhnmcopioeboaaGreat

/- The law for a range over a function of two values: the second one, or both, are moved to slots. -/
namespace Go.Proofs.YtlhnmcopioeboaaGreat
set_option maxRecDepth 100000
open Go.RowKit

/-- for _, y := range: slot t2 is moved to slot d. -/
theorem wpIn_range_second (t1 t2 d : Nat) {F : Fence} {n : Nat} {P : Program} {α : Type} {g : Operand} {ps : Array Tmp} {assign body : Code} {Q : Exit → Act → World → Prop} {a : Act} {w : World}
    (hro : F.round = none) (h1 : 1 ≤ n) {gf : Nat} {lb : Array Value} (hg : a.eval g = .func (.func gf) #[] lb) (hFg : F.fn gf) (eg : ∀ args w, (callFunc gf args).run P w = .ok (.enter gf args) w)
    (v1 v2 : α → Value) {xs : List α} {w0 : World} {B : Nat} (hseq : HandsS F (n - 1) P gf lb (fun x => #[v1 x, v2 x]) xs B w0) (hb0 : Since B w0 w) (hps : ps.size = 2)
    (I : Nat → World → Prop) (Ix : Code → Nat → World → Prop) (hI : Stands w.heap.size I) (hIx : ∀ c, Stands w.heap.size (Ix c)) (hIK : ∀ k X, I k X → Since B w0 X) (h0 : I 0 w)
    (hassign : ∀ (l : Nat) (x : α) (W : World),
      assign.wpIn (F.inRound l) (n - 1 - 1) P (Exit.then (fun a' W' => a' = { tmps := ((a.tmps.setIfInBounds t1 (v1 x)).setIfInBounds t2 (v2 x)).setIfInBounds d (v2 x), defers := [] } ∧ W' = W) (fun _ _ _ => False)) { tmps := (ps.zip #[v1 x, v2 x]).foldl (fun t (p, v) => t.setIfInBounds p v) a.tmps, defers := [] } W)
    (hbody : ∀ (l k : Nat) (x : α) (W : World), xs[k]? = some x → I k W → body.wpIn (F.inRound l) (n - 1 - 1) P (leftBy w.heap.size I Ix (k + 1) W) { tmps := ((a.tmps.setIfInBounds t1 (v1 x)).setIfInBounds t2 (v2 x)).setIfInBounds d (v2 x), defers := [] } W)
    (hdone : ∀ (D : Nat) (W : World), w.heap.size ≤ D → I xs.length W → W.heap[D]? = some (.deferred (some [])) → Q .normal { a with defers := { target := .collected D, args := #[] } :: a.defers } W)
    (hstop : ∀ (D : Nat) (c : Code) (k : Nat) (W : World), w.heap.size ≤ D → k ≤ xs.length → Ix c k W → W.heap[D]? = some (.deferred (some [])) → c.wpIn F n P Q { a with defers := { target := .collected D, args := #[] } :: a.defers } W) :
    (Code.rangeFunc g ps assign body).wpIn F n P Q a w :=
  wpIn_range_handsS hro h1 hg hFg eg hseq hb0 (fun _ => hps.symm) I Ix hI hIx hIK h0 (fun x => { tmps := ((a.tmps.setIfInBounds t1 (v1 x)).setIfInBounds t2 (v2 x)).setIfInBounds d (v2 x), defers := [] })
    (fun l x W K hK => wpIn_mono (hassign l x W) (fun e a' W' h => by
      cases e with
      | normal => obtain ⟨rfl, rfl⟩ := h; exact hK
      | _ => exact h))
    hbody hdone hstop

/-- for x, y := range: slots t1 and t2 are moved to slots d1 and d2. -/
theorem wpIn_range_both (t1 t2 d1 d2 : Nat) {F : Fence} {n : Nat} {P : Program} {α : Type} {g : Operand} {ps : Array Tmp} {assign body : Code} {Q : Exit → Act → World → Prop} {a : Act} {w : World}
    (hro : F.round = none) (h1 : 1 ≤ n) {gf : Nat} {lb : Array Value} (hg : a.eval g = .func (.func gf) #[] lb) (hFg : F.fn gf) (eg : ∀ args w, (callFunc gf args).run P w = .ok (.enter gf args) w)
    (v1 v2 : α → Value) {xs : List α} {w0 : World} {B : Nat} (hseq : HandsS F (n - 1) P gf lb (fun x => #[v1 x, v2 x]) xs B w0) (hb0 : Since B w0 w) (hps : ps.size = 2)
    (I : Nat → World → Prop) (Ix : Code → Nat → World → Prop) (hI : Stands w.heap.size I) (hIx : ∀ c, Stands w.heap.size (Ix c)) (hIK : ∀ k X, I k X → Since B w0 X) (h0 : I 0 w)
    (hassign : ∀ (l : Nat) (x : α) (W : World),
      assign.wpIn (F.inRound l) (n - 1 - 1) P (Exit.then (fun a' W' => a' = { tmps := (((a.tmps.setIfInBounds t1 (v1 x)).setIfInBounds t2 (v2 x)).setIfInBounds d1 (v1 x)).setIfInBounds d2 (v2 x), defers := [] } ∧ W' = W) (fun _ _ _ => False)) { tmps := (ps.zip #[v1 x, v2 x]).foldl (fun t (p, v) => t.setIfInBounds p v) a.tmps, defers := [] } W)
    (hbody : ∀ (l k : Nat) (x : α) (W : World), xs[k]? = some x → I k W → body.wpIn (F.inRound l) (n - 1 - 1) P (leftBy w.heap.size I Ix (k + 1) W) { tmps := (((a.tmps.setIfInBounds t1 (v1 x)).setIfInBounds t2 (v2 x)).setIfInBounds d1 (v1 x)).setIfInBounds d2 (v2 x), defers := [] } W)
    (hdone : ∀ (D : Nat) (W : World), w.heap.size ≤ D → I xs.length W → W.heap[D]? = some (.deferred (some [])) → Q .normal { a with defers := { target := .collected D, args := #[] } :: a.defers } W)
    (hstop : ∀ (D : Nat) (c : Code) (k : Nat) (W : World), w.heap.size ≤ D → k ≤ xs.length → Ix c k W → W.heap[D]? = some (.deferred (some [])) → c.wpIn F n P Q { a with defers := { target := .collected D, args := #[] } :: a.defers } W) :
    (Code.rangeFunc g ps assign body).wpIn F n P Q a w :=
  wpIn_range_handsS hro h1 hg hFg eg hseq hb0 (fun _ => hps.symm) I Ix hI hIx hIK h0 (fun x => { tmps := (((a.tmps.setIfInBounds t1 (v1 x)).setIfInBounds t2 (v2 x)).setIfInBounds d1 (v1 x)).setIfInBounds d2 (v2 x), defers := [] })
    (fun l x W K hK => wpIn_mono (hassign l x W) (fun e a' W' h => by
      cases e with
      | normal => obtain ⟨rfl, rfl⟩ := h; exact hK
      | _ => exact h))
    hbody hdone hstop
end Go.Proofs.YtlhnmcopioeboaaGreat

/- The document's example: polderlaw07.awake. -/
namespace Go.Proofs.YtlhnmcopioeboaaGreat
set_option maxRecDepth 100000
open Go.RowKit Go.Shelf M
attribute [local go_sem] Oper.semAt_some

theorem ex7_cols : colsOf [(1, 3)] 0 0 2 = [⟨0, 16, true, 0⟩, ⟨1, 16, false, 0⟩, ⟨2, 16, false, 0⟩] := by rfl
theorem ex7_blk : Blk [(1, 3)] 24 0 0 2 := ⟨rightM_iff.1 (by decide), by decide, by decide, by decide, by decide⟩
theorem ex7_enc : encOf [(1, 3)] 0 0 2 (zeroB 128) = [zeroB 64, zeroB 64, zeroB 64] := by kernel_rfl
theorem ex7_devs : devsS [1, 2] = [1, 2] := by
  refine lt_ext _ _ (devsS_spec _).1 (by decide) fun x => (devsS_spec _).2 x
theorem ex7_tries : triesOf [(1, 3)] 24 0 0 2 [zeroB 64, ⟨#[]⟩, zeroB 64] = [(1, zeroB 128)] := by
  have h : triesOf [(1, 3)] 24 0 0 2 [zeroB 64, ⟨#[]⟩, zeroB 64] = triesP [⟨0, 16, true, 0⟩, ⟨1, 16, false, 0⟩, ⟨2, 16, false, 0⟩] [zeroB 64, ⟨#[]⟩, zeroB 64] (-1 :: devsS [1, 2]) := by kernel_rfl
  have h2 : triesP [⟨0, 16, true, 0⟩, ⟨1, 16, false, 0⟩, ⟨2, 16, false, 0⟩] [zeroB 64, ⟨#[]⟩, zeroB 64] [-1, 1, 2] = [(1, zeroB 128)] := by kernel_rfl
  rw [h, ex7_devs, h2]

/-- What stands while tries come: the answer's cell, the text, and how many have come. -/
structure AW (w w7 : World) (B cb cn : Nat) (Z : ByteArray) (k : Nat) (X : World) : Prop where
  since : Since B w7 X
  below : Below w.heap.size w X
  r : X.cell? ⟨w.heap.size, 0, none⟩ = some (.bool false)
  rf : X.frozen? ⟨w.heap.size, 0, none⟩ = false
  b : X.cell? ⟨cb, 0, none⟩ = some (.string Z)
  n : X.cell? ⟨cn, 0, none⟩ = some (.int .i64 (k : Int))
  nf : X.frozen? ⟨cn, 0, none⟩ = false
theorem Since.below {B : Nat} {W X Y : World} (h : Since B W X) (k : Below W.heap.size X Y) : Since B W Y :=
  ⟨Nat.le_trans h.size k.size, fun j hj hl => (k.block j hl).trans (h.same j hj hl)⟩
theorem AW.within {w w7 : World} {B cb cn : Nat} {Z : ByteArray} {k : Nat} {X Y : World} (h : AW w w7 B cb cn Z k X) (hb : Below w7.heap.size X Y) (h1 : w.heap.size < w7.heap.size) (h2 : cb < w7.heap.size) (h3 : cn < w7.heap.size) (_ : w.heap.size < cn) : AW w w7 B cb cn Z k Y :=
  ⟨h.since.below hb, h.below.trans (hb.mono (Nat.le_of_lt h1)), (hb.cell (p := ⟨w.heap.size, 0, none⟩) h1).trans h.r, (hb.frozen (p := ⟨w.heap.size, 0, none⟩) h1).trans h.rf, (hb.cell (p := ⟨cb, 0, none⟩) h2).trans h.b, (hb.cell (p := ⟨cn, 0, none⟩) h3).trans h.n, (hb.frozen (p := ⟨cn, 0, none⟩) h3).trans h.nf⟩

theorem AW.count {w w7 : World} {B cb cn : Nat} {Z : ByteArray} {k : Nat} {X : World} (h : AW w w7 B cb cn Z k X) (h1 : w.heap.size < cb) (h2 : cb < cn) (h3 : cn < B) (m : Int) (hm : m = ((k + 1 : Nat) : Int)) : AW w w7 B cb cn Z (k + 1) (X.setCell ⟨cn, 0, none⟩ (.int .i64 m)) := by
  subst hm
  refine ⟨h.since.setCell (p := ⟨cn, 0, none⟩) h3 _, h.below.setCell (p := ⟨cn, 0, none⟩) (by show w.heap.size ≤ cn; omega) _, ?_, ?_, ?_, ?_, ?_⟩
  · rw [World.cell?_setCell_other _ _ _ _ (by intro e; cases e; omega)]; exact h.r
  · rw [World.frozen?_setCell]; exact h.rf
  · rw [World.cell?_setCell_other _ _ _ _ (by intro e; cases e; omega)]; exact h.b
  · rw [World.cell?_setCell_same _ _ _ h.n]
  · rw [World.frozen?_setCell]; exact h.nf
/-- A function that told its answer, behind a range over a function. -/
theorem told {w X : World} {D : Nat} {b : Bool} (hD : w.heap.size < D) (hB : Below w.heap.size w X) (hr : X.cell? ⟨w.heap.size, 0, none⟩ = some (.bool false)) (hK : X.heap[D]? = some (.deferred (some []))) :
    (X.setCell ⟨w.heap.size, 0, none⟩ (.bool b)).heap[D]? = some (.deferred (some [])) ∧ Below w.heap.size w ((X.setCell ⟨w.heap.size, 0, none⟩ (.bool b)).putObj D (.deferred none)) ∧ ((X.setCell ⟨w.heap.size, 0, none⟩ (.bool b)).putObj D (.deferred none)).cell? ⟨w.heap.size, 0, none⟩ = some (.bool b) := by
  have h1 : (X.setCell ⟨w.heap.size, 0, none⟩ (.bool b)).heap[D]? = some (.deferred (some [])) := (Below.heap_setCell _ _ _ _ (by show D ≠ w.heap.size; omega)).trans hK
  have h2 : Below w.heap.size w (X.setCell ⟨w.heap.size, 0, none⟩ (.bool b)) := hB.setCell (p := ⟨w.heap.size, 0, none⟩) (Nat.le_refl _) _
  refine ⟨h1, below_putObj h2 (by omega) _, ?_⟩
  rw [(below_putObj (Below.refl D _) (Nat.le_refl D) (.deferred none)).cell (p := ⟨w.heap.size, 0, none⟩) hD, World.cell?_setCell_same _ _ _ hr]

end Go.Proofs.YtlhnmcopioeboaaGreat

/- What the laws that range over tries keep: a measure, a place, a text, and the answer, in boxes; and columns one device's of which are spoilt. -/
namespace Go.Proofs.YtlhnmcopioeboaaGreat
set_option maxRecDepth 100000
open Go.RowKit M

structure HQ (w0 w : World) (a : Option Addr) (n c : Nat) (sc : Int) (l : List (Int × Int)) (k t : Int) (s : ByteArray) : Prop where
  h : HeldP w0 w w0.heap.size (w0.heap.size + 1) a n c sc l k t
  tx : w.cell? ⟨w0.heap.size + 2, 0, none⟩ = some (.string s)
  r : w.cell? ⟨w0.heap.size + 3, 0, none⟩ = some (.bool false)
  rf : w.frozen? ⟨w0.heap.size + 3, 0, none⟩ = false
  lt : w0.heap.size + 3 < w.heap.size
theorem HQ.next {w0 w w' : World} {a : Option Addr} {n c : Nat} {sc : Int} {l : List (Int × Int)} {k t : Int} {s : ByteArray} (h : HQ w0 w a n c sc l k t s) (b : Below w.heap.size w w') : HQ w0 w' a n c sc l k t s :=
  ⟨h.h.next b, (b.cell (p := ⟨w0.heap.size + 2, 0, none⟩) (by show w0.heap.size + 2 < _; have := h.lt; omega)).trans h.tx, (b.cell (p := ⟨w0.heap.size + 3, 0, none⟩) h.lt).trans h.r, (b.frozen (p := ⟨w0.heap.size + 3, 0, none⟩) h.lt).trans h.rf, Nat.lt_of_lt_of_le h.lt b.size⟩
theorem HQ.start {w : World} {a : Option Addr} {n c : Nat} {sc : Int} {l : List (Int × Int)} (k t : Int) (s : ByteArray) (h : Meas w (.agg #[.slice a n c, .int .i64 sc]) l sc) :
    HQ w ((((w.alloc (.cells #[.slice a n c, .int .i64 sc] 24)).alloc (.cells #[.int .i64 k, .int .i64 t] 26)).alloc (.cells #[.string s] 9)).alloc (.cells #[.bool false] 4)) a n c sc l k t s :=
  ⟨((HeldP.start k t h).next (boxed _ _)).next (boxed _ _), box_kept (by simp) (boxed _ _), box_now _ _ _ (by simp), by
    have e : w.heap.size + 3 = (((w.alloc (.cells #[.slice a n c, .int .i64 sc] 24)).alloc (.cells #[.int .i64 k, .int .i64 t] 26)).alloc (.cells #[.string s] 9)).heap.size := by simp
    rw [e]; exact World.frozen?_alloc_at _ _ _ _ rfl, by simp⟩
theorem ColsAt.set {w : World} {g : Nat} {L : List C} (h : ColsAt w g L) {p : Addr} (hp : p.block ≠ g) (v : Value) : ColsAt (w.setCell p v) g L :=
  ⟨by simpa [World.setCell] using h.lt, fun j hj => IsC.of fun i hi => by
    rw [World.cell?_setCell_other _ _ _ _ (by intro e; exact hp (by rw [e]))]
    exact (h.at_ j hj).get i hi⟩

/-- Spoilt columns: of a Parity a device's, of a Mirror all others'. -/
structure Spo (L : List C) (f : Nat → ByteArray) (d : Int) (mir : Bool) (G : List ByteArray) : Prop where
  len : G.length = L.length
  at_ : ∀ j, j < L.length → G.getD j ⟨#[]⟩ = encAt L f j ∨ (((devAt L j == d) != mir) = true ∧ ((G.getD j ⟨#[]⟩).size = 0 ∨ (G.getD j ⟨#[]⟩).size = 64))
theorem Spo.start (L : List C) (f : Nat → ByteArray) (d : Int) (mir : Bool) : Spo L f d mir (encL L f) := ⟨encL_len L f, fun j hj => .inl (encL_getD L f j hj)⟩
theorem getD_set (G : List ByteArray) (i j : Nat) (y : ByteArray) (hi : i < G.length) : (G.set i y).getD j ⟨#[]⟩ = if i = j then y else G.getD j ⟨#[]⟩ := by
  by_cases e : i = j
  · subst e
    rw [List.getD_eq_getElem?_getD, List.getElem?_set_self hi, if_pos rfl]; rfl
  · rw [List.getD_eq_getElem?_getD, List.getElem?_set_ne e, if_neg e, List.getD_eq_getElem?_getD]
theorem Spo.set {L : List C} {f : Nat → ByteArray} {d : Int} {mir : Bool} {G : List ByteArray} (h : Spo L f d mir G) {i : Nat} (hi : i < L.length) {y : ByteArray} (hd : ((devAt L i == d) != mir) = true) (hy : y.size = 0 ∨ y.size = 64) : Spo L f d mir (G.set i y) := by
  refine ⟨by rw [List.length_set]; exact h.len, fun j hj => ?_⟩
  rw [getD_set G i j y (by rw [h.len]; exact hi)]
  by_cases e : i = j
  · subst e
    rw [if_pos rfl]
    exact .inr ⟨hd, hy⟩
  · rw [if_neg e]
    exact h.at_ j hj
theorem mem_getD {G : List ByteArray} {x : ByteArray} (h : x ∈ G) : ∃ j, j < G.length ∧ G.getD j ⟨#[]⟩ = x := by
  obtain ⟨j, hj, rfl⟩ := List.getElem_of_mem h
  exact ⟨j, hj, getD_some ⟨hj, rfl⟩⟩
section
variable {l : List (Int × Int)} {sc : Int} {k t z : Nat} {s : ByteArray} {kk : Int} {u : Nat} {L : List C} {f : Nat → ByteArray}
theorem Spo.sizes (h : Enc7 l sc k t z s kk u L f) {d : Int} {mir : Bool} {G : List ByteArray} (hS : Spo L f d mir G) : ∀ x ∈ G, x.size = 0 ∨ x.size = 64 := by
  intro x hx
  obtain ⟨j, hj, rfl⟩ := mem_getD hx
  rw [hS.len] at hj
  rcases hS.at_ j hj with e | ⟨_, e⟩
  · rw [e]; exact .inr (enc_size h.sound h.hf j hj)
  · exact e
theorem Enc7.dev_row (h : Enc7 l sc k t z s kk u L f) {i j : Nat} (hi : i < L.length) (hj : j < L.length) (hij : i ≠ j) (hr : rowAt L i = rowAt L j) : devAt L i ≠ devAt L j := by
  obtain ⟨R, hR⟩ := h.rows
  rw [rowAt_eq hi, rowAt_eq hj] at hr
  rw [devAt_eq hi, devAt_eq hj]
  rcases Nat.lt_or_ge i j with h1 | h1
  · exact hR.devs i j hi hj h1 hr
  · exact fun e => hR.devs j i hj hi (by omega) hr.symm e.symm
/-- A Parity one device's columns of which are spoilt: the text is among the tries. -/
theorem Enc7.oneP (h : Enc7 l sc k t z s kk u L f) (h1 : kk = 1) {d : Int} {G : List ByteArray} (hS : Spo L f d false G) : ∃ x, (x, s) ∈ triesOf l sc k t z G := by
  rw [h.tries hS.len (hS.sizes h), if_neg (by rw [h1]; decide)]
  have hag : ∀ j, j < L.length → devAt L j ≠ d → G.getD j ⟨#[]⟩ = encAt L f j := fun j hj hd => by
    rcases hS.at_ j hj with e | ⟨e, _⟩
    · exact e
    · have : (devAt L j == d) = false := by simpa using hd
      rw [this] at e
      cases e
  by_cases hex : ∃ j, j < L.length ∧ parAt L j = false ∧ devAt L j = d
  · obtain ⟨j0, hj0, hp0, hd0⟩ := hex
    refine ⟨d, ?_⟩
    unfold triesP
    rw [List.mem_filterMap]
    refine ⟨d, List.mem_cons_of_mem _ ((devsS_spec _).2 d |>.2 ?_), h.tryP h1 fun j hj hp => ?_⟩
    · refine List.mem_map.2 ⟨L[j0], ?_, by rw [← devAt_eq hj0]; exact hd0⟩
      unfold datL
      rw [List.mem_filter]
      exact ⟨List.getElem_mem _, by rw [← parAt_eq hj0, hp0]; rfl⟩
    · by_cases hd : devAt L j = d
      · rw [if_pos hd]
        refine h.agn h1 hj hp fun i hi hr hne => hag i hi fun e => ?_
        exact h.dev_row hi hj hne hr (by rw [e, hd])
      · rw [if_neg hd]
        exact hag j hj hd
  · refine ⟨-1, ?_⟩
    unfold triesP
    rw [List.mem_filterMap]
    refine ⟨-1, List.mem_cons_self, h.tryP h1 fun j hj hp => ?_⟩
    have h0 := h.blk.dev j (by rw [h.hL]; exact hj)
    have hL := h.hL
    subst hL
    rw [if_neg (by rw [devAt_eq hj]; omega)]
    exact hag j hj fun e => hex ⟨j, hj, hp, e⟩
/-- A Mirror one device's columns of which are right: the text is among the tries. -/
theorem Enc7.oneM (h : Enc7 l sc k t z s kk u L f) (h0 : kk = 0) {dn : Nat} (hd : dn < u) {G : List ByteArray} (hS : Spo L f (aheadL l k + (dn : Int)) true G) : ∃ x, (x, s) ∈ triesOf l sc k t z G := by
  rw [h.tries hS.len (hS.sizes h), if_pos h0]
  refine ⟨aheadL l k + (dn : Int), ?_⟩
  unfold triesM
  rw [List.mem_filterMap]
  refine ⟨dn, List.mem_range.2 hd, h.tryM h0 hS.len hd fun i hi => ?_⟩
  obtain ⟨_, hl, _⟩ := h.mir h0
  have hb : dn * z + z ≤ u * z := by rw [← Nat.succ_mul]; exact Nat.mul_le_mul_right _ hd
  have hj : dn * z + i < L.length := by rw [hl]; omega
  rcases hS.at_ _ hj with e | ⟨e, _⟩
  · exact e
  · rw [h.devM h0 hj] at e
    have hdv : (dn * z + i) / z = dn := by
      rw [Nat.add_comm, Nat.add_mul_div_right _ _ h.blk.z1, Nat.div_eq_of_lt hi, Nat.zero_add]
    rw [hdv] at e
    simp at e
end
end Go.Proofs.YtlhnmcopioeboaaGreat

/- Columns some of which are missing: what they come to (no program is named here). -/
namespace Go.Proofs.YtlhnmcopioeboaaGreat
set_option maxRecDepth 100000
open Go.RowKit M

/-- Some columns are missing, all others are as they are encoded. -/
structure Mis (L : List C) (f : Nat → ByteArray) (G : List ByteArray) : Prop where
  len : G.length = L.length
  at_ : ∀ j, j < L.length → G.getD j ⟨#[]⟩ = encAt L f j ∨ G.getD j ⟨#[]⟩ = ⟨#[]⟩
theorem Mis.start (L : List C) (f : Nat → ByteArray) : Mis L f (encL L f) := ⟨encL_len L f, fun j hj => .inl (encL_getD L f j hj)⟩
theorem Mis.set {L : List C} {f : Nat → ByteArray} {G : List ByteArray} (h : Mis L f G) {i : Nat} (hi : i < L.length) : Mis L f (G.set i ⟨#[]⟩) := by
  refine ⟨by rw [List.length_set]; exact h.len, fun j hj => ?_⟩
  rw [getD_set G i j _ (by rw [h.len]; exact hi)]
  by_cases e : i = j
  · rw [if_pos e]; exact .inr rfl
  · rw [if_neg e]; exact h.at_ j hj
/-- Is a column missing? -/
def isHole (G : List ByteArray) (j : Nat) : Bool := (G.getD j ⟨#[]⟩).size == 0
theorem mkB_hole {l : List ByteArray} {x : ByteArray} (h : x ∈ l) (hx : x.size = 0) : (mkB l).size = 0 := by
  unfold mkB
  split
  · rename_i hok
    rw [parB_size, ← ok_size hok x h, hx]
  · rfl
theorem hole_mem {l : List ByteArray} {x : ByteArray} (h : x ∈ l) (hx : x.size = 0) : holeL l = true := by
  unfold holeL
  rw [List.any_eq_true]
  exact ⟨x, h, by simp [hx]⟩
theorem no_hole {l : List ByteArray} (h : holeL l = false) {x : ByteArray} (hx : x ∈ l) : x.size ≠ 0 := fun e => by
  rw [hole_mem hx e] at h
  cases h
/-- Another column of a row is among those by which a column is made again. -/
theorem agn_mem {L : List C} {G : List ByteArray} {a j : Nat} (ha : a < L.length) (hj : j < L.length) (hr : rowAt L j = rowAt L a) (hne : j ≠ a) : G.getD j ⟨#[]⟩ ∈ (rowG L G (rowAt L a) L.length).eraseIdx (rowG L G (rowAt L a) a).length := by
  obtain ⟨r, h, hm⟩ := idx_split (q := fun j => rowAt L j == rowAt L a) (a := a) (by simp) L.length ha
  have hjm : j ∈ idx (fun j => rowAt L j == rowAt L a) L.length := idx_mem.2 ⟨hj, by simp [hr]⟩
  unfold rowG
  rw [h, List.length_map, List.map_append, List.map_cons, List.eraseIdx_append_of_length_le (by simp), List.length_map, Nat.sub_self, List.eraseIdx_zero, List.tail_cons, ← List.map_append]
  refine List.mem_map.2 ⟨j, ?_, rfl⟩
  rw [h] at hjm
  rcases List.mem_append.1 hjm with h1 | h1
  · exact List.mem_append_left _ h1
  · rcases List.mem_cons.1 h1 with h2 | h2
    · exact absurd h2 hne
    · exact List.mem_append_right _ h2
theorem wth_mem {L : List C} {G : List ByteArray} {d : Int} {j : Nat} (hj : j < L.length) (hp : parAt L j = false) : (if devAt L j = d then agn L G j else G.getD j ⟨#[]⟩) ∈ wth L G d L.length :=
  List.mem_map.2 ⟨j, idx_mem.2 ⟨hj, by simp [hp]⟩, rfl⟩
section
variable {l : List (Int × Int)} {sc : Int} {k t z : Nat} {s : ByteArray} {kk : Int} {u : Nat} {L : List C} {f : Nat → ByteArray}
theorem Mis.sizes (h : Enc7 l sc k t z s kk u L f) {G : List ByteArray} (hS : Mis L f G) : ∀ x ∈ G, x.size = 0 ∨ x.size = 64 := by
  intro x hx
  obtain ⟨j, hj, rfl⟩ := mem_getD hx
  rw [hS.len] at hj
  rcases hS.at_ j hj with e | e
  · rw [e]; exact .inr (enc_size h.sound h.hf j hj)
  · rw [e]; exact .inl rfl
theorem Mis.there {G : List ByteArray} (hS : Mis L f G) {j : Nat} (hj : j < L.length) (hne : (G.getD j ⟨#[]⟩).size ≠ 0) : G.getD j ⟨#[]⟩ = encAt L f j := by
  rcases hS.at_ j hj with e | e
  · exact e
  · rw [e] at hne; exact absurd rfl hne
theorem Enc7.lessP (h : Enc7 l sc k t z s kk u L f) (h1 : kk = 1) {G : List ByteArray} (hS : Mis L f G) : ∀ y ∈ triesOf l sc k t z G, y.2 = s := by
  rw [h.tries hS.len (hS.sizes h), if_neg (by rw [h1]; decide)]
  intro y hy
  unfold triesP at hy
  obtain ⟨d, _, hd⟩ := List.mem_filterMap.1 hy
  have hno : holeL (wth L G d L.length) = false := by
    unfold tryOf at hd
    cases hh : holeL (wth L G d L.length) with
    | false => rfl
    | true => rw [hh] at hd; cases hd
  have := h.tryP h1 (G := G) (d := d) fun j hj hp => by
    have hm := no_hole hno (wth_mem (d := d) hj hp)
    by_cases e : devAt L j = d
    · rw [if_pos e] at hm ⊢
      refine h.agn h1 hj hp fun i hi hr hne => hS.there hi fun e0 => hm ?_
      unfold Proofs.YtlhnmcopioeboaaGreat.agn
      exact mkB_hole (agn_mem hj hi hr hne) e0
    · rw [if_neg e] at hm ⊢
      exact hS.there hj hm
  rw [this] at hd
  cases hd
  rfl
theorem Enc7.noneP (h : Enc7 l sc k t z s kk u L f) (h1 : kk = 1) {G : List ByteArray} (hS : Mis L f G) {i j : Nat} (hi : i < L.length) (hj : j < L.length) (hij : i ≠ j) (hr : rowAt L i = rowAt L j) (hgi : isHole G i = true) (hgj : isHole G j = true) : triesOf l sc k t z G = [] := by
  rw [h.tries hS.len (hS.sizes h), if_neg (by rw [h1]; decide)]
  unfold isHole at hgi hgj
  rw [beq_iff_eq] at hgi hgj
  have key : ∀ i j, i < L.length → j < L.length → i ≠ j → rowAt L i = rowAt L j → (G.getD i ⟨#[]⟩).size = 0 → (G.getD j ⟨#[]⟩).size = 0 → parAt L i = false → ∀ d, tryOf d (wth L G d L.length) = none := by
    intro i j hi hj hij hr hgi hgj hp d
    have hh : holeL (wth L G d L.length) = true := by
      refine hole_mem (wth_mem (d := d) hi hp) ?_
      by_cases e : devAt L i = d
      · rw [if_pos e]
        unfold Proofs.YtlhnmcopioeboaaGreat.agn
        exact mkB_hole (agn_mem hi hj hr.symm (fun e => hij e.symm)) hgj
      · rw [if_neg e]
        exact hgi
    unfold tryOf
    rw [hh]
    rfl
  have hall : ∀ d, tryOf d (wth L G d L.length) = none := by
    cases hp : parAt L i with
    | false => exact key i j hi hj hij hr hgi hgj hp
    | true =>
      cases hq : parAt L j with
      | false => exact key j i hj hi (fun e => hij e.symm) hr.symm hgj hgi hq
      | true =>
        exfalso
        have hone := h.one h1 hi
        unfold pcN at hone
        have m1 : i ∈ idx (fun x => parAt L x && rowAt L x == rowAt L i) L.length := idx_mem.2 ⟨hi, by simp [hp]⟩
        have m2 : j ∈ idx (fun x => parAt L x && rowAt L x == rowAt L i) L.length := idx_mem.2 ⟨hj, by simp [hq, hr]⟩
        match hm : idx (fun x => parAt L x && rowAt L x == rowAt L i) L.length, hone with
        | [x], _ =>
          rw [hm] at m1 m2
          exact hij ((List.mem_singleton.1 m1).trans (List.mem_singleton.1 m2).symm)
  unfold triesP
  rw [List.filterMap_eq_nil_iff]
  exact fun d _ => hall d
/-- How many columns are missing of those that are with column i. -/
def missTo (L : List C) (G : List ByteArray) (mir : Bool) (i k : Nat) : Nat := (idx (fun j => isHole G j && (if mir then devAt L j == devAt L i else rowAt L j == rowAt L i)) k).length
theorem miss_zero {mir : Bool} {G : List ByteArray} {i n : Nat} (h : missTo L G mir i n = 0) {j : Nat} (hj : j < n) (hs : (if mir then devAt L j == devAt L i else rowAt L j == rowAt L i) = true) : isHole G j = false := by
  cases hh : isHole G j with
  | false => rfl
  | true =>
    have : j ∈ idx (fun j => isHole G j && (if mir then devAt L j == devAt L i else rowAt L j == rowAt L i)) n := idx_mem.2 ⟨hj, by rw [hh, hs]; rfl⟩
    rw [List.eq_nil_of_length_eq_zero h] at this
    cases this
theorem miss_none {mir : Bool} {G : List ByteArray} {i n : Nat} (h : ∀ j, j < n → (if mir then devAt L j == devAt L i else rowAt L j == rowAt L i) = true → isHole G j = false) : missTo L G mir i n = 0 := by
  unfold missTo
  rw [List.length_eq_zero_iff]
  unfold idx
  rw [List.filter_eq_nil_iff]
  intro j hj hc
  rw [Bool.and_eq_true] at hc
  rw [h j (List.mem_range.1 hj) hc.2] at hc
  exact absurd hc.1 (by decide)
theorem miss_two {mir : Bool} {G : List ByteArray} {i n : Nat} (h : 2 ≤ missTo L G mir i n) : ∃ a b, a < n ∧ b < n ∧ a ≠ b ∧ isHole G a = true ∧ isHole G b = true ∧ (if mir then devAt L a == devAt L i else rowAt L a == rowAt L i) = true ∧ (if mir then devAt L b == devAt L i else rowAt L b == rowAt L i) = true := by
  have hs : (idx (fun j => isHole G j && (if mir then devAt L j == devAt L i else rowAt L j == rowAt L i)) n).Pairwise (· < ·) := List.Pairwise.filter _ (List.pairwise_lt_range)
  unfold missTo at h
  match hm : idx (fun j => isHole G j && (if mir then devAt L j == devAt L i else rowAt L j == rowAt L i)) n, h with
  | a :: b :: r, _ =>
    rw [hm] at hs
    have hab : a < b := (List.pairwise_cons.1 hs).1 b (by simp)
    have h1 := idx_mem.1 (show a ∈ idx _ n by rw [hm]; simp)
    have h2 := idx_mem.1 (show b ∈ idx _ n by rw [hm]; simp)
    rw [Bool.and_eq_true] at h1 h2
    exact ⟨a, b, h1.1, h2.1, by omega, h1.2.1, h2.2.1, h1.2.2, h2.2.2⟩
theorem Enc7.lessM (h : Enc7 l sc k t z s kk u L f) (h0 : kk = 0) {G : List ByteArray} (hS : Mis L f G) : (∀ y ∈ triesOf l sc k t z G, y.2 = s) ∧ (0 < (triesOf l sc k t z G).length ↔ ∃ a, a < L.length ∧ missTo L G true a L.length = 0) := by
  rw [h.tries hS.len (hS.sizes h), if_pos h0]
  obtain ⟨_, hl, hu1, _⟩ := h.mir h0
  have hz := h.blk.z1
  have full : ∀ d, d < u → holeL (chunk G z d) = false → tryOf (devAt L (d * z)) (chunk G z d) = some (aheadL l k + (d : Int), s) := by
    intro d hd hno
    have hb : d * z + z ≤ u * z := by rw [← Nat.succ_mul]; exact Nat.mul_le_mul_right _ hd
    refine h.tryM h0 hS.len hd fun i hi => hS.there (by rw [hl]; omega) (no_hole hno ?_)
    rw [chunk_map (by rw [hS.len, hl]) hd]
    exact List.mem_map.2 ⟨i, List.mem_range.2 hi, rfl⟩
  refine ⟨fun y hy => ?_, ?_⟩
  · unfold triesM at hy
    obtain ⟨d, hd, hy⟩ := List.mem_filterMap.1 hy
    have hd := List.mem_range.1 hd
    have hno : holeL (chunk G z d) = false := by
      unfold tryOf at hy
      cases hh : holeL (chunk G z d) with
      | false => rfl
      | true => rw [hh] at hy; cases hy
    rw [full d hd hno] at hy
    cases hy
    rfl
  · rw [List.length_pos_iff_exists_mem]
    constructor
    · rintro ⟨y, hy⟩
      unfold triesM at hy
      obtain ⟨d, hd, hy⟩ := List.mem_filterMap.1 hy
      have hd := List.mem_range.1 hd
      have hno : holeL (chunk G z d) = false := by
        unfold tryOf at hy
        cases hh : holeL (chunk G z d) with
        | false => rfl
        | true => rw [hh] at hy; cases hy
      have hb : d * z + z ≤ u * z := by rw [← Nat.succ_mul]; exact Nat.mul_le_mul_right _ hd
      refine ⟨d * z, by rw [hl]; omega, miss_none fun j hj hsd => ?_⟩
      rw [if_pos rfl, beq_iff_eq, h.devM h0 hj, h.devM h0 (by rw [hl]; omega), Nat.mul_div_cancel _ hz] at hsd
      have hjd : j / z = d := by omega
      unfold isHole
      rw [beq_eq_false_iff_ne]
      refine no_hole hno ?_
      rw [chunk_map (by rw [hS.len, hl]) hd]
      refine List.mem_map.2 ⟨j % z, List.mem_range.2 (Nat.mod_lt _ hz), ?_⟩
      have := Nat.div_add_mod j z
      rw [hjd, Nat.mul_comm] at this
      rw [this]
    · rintro ⟨a, ha, hm⟩
      have hd : a / z < u := Nat.div_lt_of_lt_mul (by rw [Nat.mul_comm, ← hl]; exact ha)
      have hb : a / z * z + z ≤ u * z := by rw [← Nat.succ_mul]; exact Nat.mul_le_mul_right _ hd
      have hno : holeL (chunk G z (a / z)) = false := by
        unfold holeL
        rw [List.any_eq_false]
        intro x hx
        rw [chunk_map (by rw [hS.len, hl]) hd] at hx
        obtain ⟨i, hi, rfl⟩ := List.mem_map.1 hx
        have hi := List.mem_range.1 hi
        have hj : a / z * z + i < L.length := by rw [hl]; omega
        have := miss_zero hm hj (by
          rw [if_pos rfl, beq_iff_eq, h.devM h0 hj, h.devM h0 ha]
          have : (a / z * z + i) / z = a / z := by rw [Nat.add_comm, Nat.add_mul_div_right _ _ hz, Nat.div_eq_of_lt hi, Nat.zero_add]
          rw [this])
        unfold isHole at this
        simpa using this
      refine ⟨(aheadL l k + ((a / z : Nat) : Int), s), ?_⟩
      unfold triesM
      exact List.mem_filterMap.2 ⟨a / z, List.mem_range.2 hd, full _ hd hno⟩
end
end Go.Proofs.YtlhnmcopioeboaaGreat

/- What a block reads as raw that was written to devices some of which aren't here; just when it is among the tries (no program is named here). -/
namespace Go.Proofs.YtlhnmcopioeboaaGreat
set_option maxRecDepth 100000
open Go.RowKit Go.Maps M

/-- What a column reads as behind writing: nothing of a device that isn't here. -/
theorem rawAt_wrote {L : List C} (hA : ApartN L) (ds : Nat → Dv) (aw : Nat → Bool) (E : List ByteArray) {j : Nat} (hj : j < L.length) : rawAt (wrTo ds aw L E L.length) aw L j = if hereB ds aw (devN L j) then E.getD j ⟨#[]⟩ else ⟨#[]⟩ := by
  rw [rawAt, wrTo_here]
  cases h : hereB ds aw (devN L j) with
  | true => rw [if_pos rfl, if_pos rfl, wrTo_now hA _ _ _ _ (Nat.le_refl _) j hj, if_pos ⟨hj, h⟩, strOf_data]
  | false => rfl
/-- Columns of devices that are here are as they are encoded, all others are missing. -/
structure Lacks (L : List C) (f : Nat → ByteArray) (hr : Nat → Bool) (G : List ByteArray) : Prop where
  len : G.length = L.length
  here : ∀ j, j < L.length → hr (devN L j) = true → G.getD j ⟨#[]⟩ = encAt L f j
  gone : ∀ j, j < L.length → hr (devN L j) = false → G.getD j ⟨#[]⟩ = ⟨#[]⟩
theorem lacks_raw {L : List C} {f : Nat → ByteArray} (hA : ApartN L) (ds : Nat → Dv) (aw : Nat → Bool) {hr : Nat → Bool} (hh : ∀ j, j < L.length → hereB ds aw (devN L j) = hr (devN L j)) : Lacks L f hr (rawL (wrTo ds aw L (encL L f) L.length) aw L) := by
  refine ⟨rawL_len _ _ _, fun j hj h => ?_, fun j hj h => ?_⟩
  · rw [rawL_at _ _ _ _ hj, rawAt_wrote hA _ _ _ hj, hh j hj, h, if_pos rfl, encL_getD L f j hj]
  · rw [rawL_at _ _ _ _ hj, rawAt_wrote hA _ _ _ hj, hh j hj, h]
    rfl
theorem Lacks.mis {L : List C} {f : Nat → ByteArray} {hr : Nat → Bool} {G : List ByteArray} (h : Lacks L f hr G) : Mis L f G := ⟨h.len, fun j hj => by
  cases e : hr (devN L j) with
  | true => exact .inl (h.here j hj e)
  | false => exact .inr (h.gone j hj e)⟩
theorem Lacks.hole {L : List C} {f : Nat → ByteArray} {hr : Nat → Bool} {G : List ByteArray} (h : Lacks L f hr G) {j : Nat} (hj : j < L.length) (e : hr (devN L j) = false) : isHole G j = true := by
  unfold isHole
  rw [h.gone j hj e]
  rfl
theorem lackN_congr (L : List C) {hr hr' : Nat → Bool} : ∀ n, (∀ i, i < n → hr i = hr' i) → lackN L hr n = lackN L hr' n := by
  intro n
  induction n with
  | zero => intro _; rfl
  | succ n ih =>
    intro h
    rw [lackN, lackN, h n (by omega), ih fun i hi => h i (by omega)]
/-- One of a range's devices is here: fewer than all lack. -/
theorem lackN_one (L : List C) (hr : Nat → Bool) (f u dn : Nat) (hL : ∀ j, j < L.length → f ≤ devN L j ∧ devN L j < f + u) (hd : dn < u) (hh : hr (f + dn) = true) : ∀ k, (k ≤ f + dn → lackN L hr k ≤ k - f) ∧ (f + dn < k → k ≤ f + u → lackN L hr k + 1 ≤ k - f) ∧ (f + u ≤ k → lackN L hr k + 1 ≤ u) := by
  intro k
  induction k with
  | zero => exact ⟨fun _ => Nat.zero_le _, fun h => by omega, fun h => by omega⟩
  | succ k ih =>
    obtain ⟨i1, i2, i3⟩ := ih
    rw [lackN]
    cases h : (hasD L k L.length && !hr k) with
    | false =>
      rw [if_neg (by simp)]
      refine ⟨fun h1 => by have := i1 (by omega); omega, fun h1 h2 => ?_, fun h1 => ?_⟩
      · by_cases e : k = f + dn
        · have := i1 (by omega); omega
        · have := i2 (by omega) (by omega); omega
      · by_cases e : f + u ≤ k
        · exact i3 e
        · by_cases e2 : k = f + dn
          · have := i1 (by omega); omega
          · have := i2 (by omega) (by omega); omega
    | true =>
      rw [if_pos rfl]
      rw [Bool.and_eq_true, hasD_iff] at h
      obtain ⟨⟨j, hj, e⟩, hk⟩ := h
      have h1 := hL j hj
      rw [e] at h1
      have hne : k ≠ f + dn := fun e2 => by
        rw [e2, hh] at hk
        cases hk
      refine ⟨fun h2 => by have := i1 (by omega); omega, fun h2 h3 => by have := i2 (by omega) (by omega); omega, fun h2 => by have := i2 (by omega) (by omega); omega⟩
/-- None of a range's devices is here: all of them lack. -/
theorem lackN_full (L : List C) (hr : Nat → Bool) (f u : Nat) (hL : ∀ d, d < u → hasD L (f + d) L.length = true ∧ hr (f + d) = false) : ∀ k, (k ≤ f + u → k - f ≤ lackN L hr k) ∧ (f + u ≤ k → u ≤ lackN L hr k) := by
  intro k
  induction k with
  | zero => exact ⟨fun _ => by omega, fun h => by omega⟩
  | succ k ih =>
    obtain ⟨i1, i2⟩ := ih
    rw [lackN]
    by_cases hin : f ≤ k ∧ k < f + u
    · have h1 := hL (k - f) (by omega)
      rw [show f + (k - f) = k by omega] at h1
      rw [h1.1, h1.2, Bool.not_false, Bool.and_self, if_pos rfl]
      exact ⟨fun h2 => by have := i1 (by omega); omega, fun h2 => by have := i1 (by omega); omega⟩
    · split
      · exact ⟨fun h2 => by omega, fun h2 => by
          by_cases e : f + u ≤ k
          · have := i2 e; omega
          · omega⟩
      · exact ⟨fun h2 => by omega, fun h2 => by
          by_cases e : f + u ≤ k
          · have := i2 e; omega
          · omega⟩
/-- The first columns of a Parity's block, as many as its group has devices, are of its first row. -/
theorem par_row0 : ∀ u : Nat, u < 9 → 3 ≤ u → ∀ z : Nat, z < 5 → 1 ≤ z → ∀ j : Nat, j < 6 → j < u → ∀ x ∈ ((parTo 0 0 u z).map rp)[j]?, x.1 = 0 := by
  intro u h9 h3 z h5 h1
  rcases (show u = 3 ∨ u = 4 ∨ u = 5 ∨ u = 6 ∨ u = 7 ∨ u = 8 by omega) with rfl | rfl | rfl | rfl | rfl | rfl <;> rcases (show z = 1 ∨ z = 2 ∨ z = 3 ∨ z = 4 by omega) with rfl | rfl | rfl | rfl <;> decide
section
variable {l : List (Int × Int)} {sc : Int} {k t z : Nat} {s : ByteArray} {kk : Int} {u : Nat} {L : List C} {f : Nat → ByteArray} {hr : Nat → Bool} {G : List ByteArray}
theorem Enc7.devE (h : Enc7 l sc k t z s kk u L f) {j : Nat} (hj : j < L.length) : devAt L j = (devN L j : Int) := by
  have h0 := h.blk.dev j (by rw [h.hL]; exact hj)
  have hL := h.hL
  subst hL
  rw [devAt_eq hj]
  unfold devN
  rw [List.getD_eq_getElem?_getD, List.getElem?_eq_getElem hj]
  show _ = (((colsOf l k t z)[j].dev.toNat : Nat) : Int)
  omega
theorem Enc7.ahead (h : Enc7 l sc k t z s kk u L f) : 0 ≤ aheadL l k := by
  have := (h.blk.right.bounds k (Nat.le_of_lt h.blk.hk)).1
  omega
theorem Enc7.grpE (h : Enc7 l sc k t z s kk u L f) : l[k]'h.blk.hk = (kk, (u : Int)) := by rw [← getD_at h.blk.hk]; exact h.kind.grp
theorem Enc7.devIn (h : Enc7 l sc k t z s kk u L f) : ∀ j, j < L.length → (aheadL l k).toNat ≤ devN L j ∧ devN L j < (aheadL l k).toNat + u := by
  intro j hj
  have e := h.devE hj
  have h0 := h.ahead
  have hL := h.hL
  subst hL
  have h1 := h.blk.laid.dev0 j hj
  have h2 := h.blk.laid.dev1 j hj
  rw [h.grpE] at h2
  rw [devAt_eq hj] at e
  simp only at h2
  omega
/-- A Mirror's device has a column. -/
theorem Enc7.devOf (h : Enc7 l sc k t z s kk u L f) (h0 : kk = 0) {dn : Nat} (hd : dn < u) : ∃ j, j < L.length ∧ devN L j = (aheadL l k).toNat + dn := by
  obtain ⟨_, hl, _⟩ := h.mir h0
  have hz := h.blk.z1
  have hb : dn * z + z ≤ u * z := by rw [← Nat.succ_mul]; exact Nat.mul_le_mul_right _ hd
  have hj : dn * z < L.length := by rw [hl]; omega
  have e := h.devE hj
  rw [h.devM h0 hj, Nat.mul_div_cancel _ hz] at e
  have := h.ahead
  exact ⟨dn * z, hj, by omega⟩
theorem Lacks.spo (hG : Lacks L f hr G) {d : Int} {mir : Bool} (h : ∀ j, j < L.length → hr (devN L j) = false → ((devAt L j == d) != mir) = true) : Spo L f d mir G := ⟨hG.len, fun j hj => by
  cases e : hr (devN L j) with
  | true => exact .inl (hG.here j hj e)
  | false => exact .inr ⟨h j hj e, .inl (by rw [hG.gone j hj e]; rfl)⟩⟩
theorem Enc7.foundM (h : Enc7 l sc k t z s kk u L f) (h0 : kk = 0) (hG : Lacks L f hr G) {n : Nat} (hn : ∀ j, j < L.length → devN L j < n) :
    (lackN L hr n < u → ∃ x, (x, s) ∈ triesOf l sc k t z G) ∧ (u ≤ lackN L hr n → triesOf l sc k t z G = []) := by
  have hA := h.ahead
  obtain ⟨_, _, hu1, _⟩ := h.mir h0
  have hN : (aheadL l k).toNat + u ≤ n := by
    obtain ⟨j, hj, e⟩ := h.devOf h0 (dn := u - 1) (by omega)
    have := hn j hj
    omega
  constructor
  · intro hlt
    have hex : ∃ dn, dn < u ∧ hr ((aheadL l k).toNat + dn) = true := by
      refine Classical.byContradiction fun hno => ?_
      have := (lackN_full L hr (aheadL l k).toNat u (fun d hd => ⟨hasD_iff.2 (h.devOf h0 hd), by
        cases e : hr ((aheadL l k).toNat + d) with
        | false => rfl
        | true => exact absurd ⟨d, hd, e⟩ hno⟩) n).2 hN
      omega
    obtain ⟨dn, hd, he⟩ := hex
    refine h.oneM h0 hd (hG.spo fun j hj hg => ?_)
    have hne : devAt L j ≠ aheadL l k + (dn : Int) := fun e => by
      rw [h.devE hj] at e
      rw [show devN L j = (aheadL l k).toNat + dn by omega, he] at hg
      cases hg
    rw [beq_eq_false_iff_ne.2 hne]
    rfl
  · intro hge
    have hall : ∀ j, j < L.length → hr (devN L j) = false := fun j hj => by
      cases e : hr (devN L j) with
      | false => rfl
      | true =>
        have hi := h.devIn j hj
        have := (lackN_one L hr (aheadL l k).toNat u (devN L j - (aheadL l k).toNat) h.devIn (by omega) (by rw [show (aheadL l k).toNat + (devN L j - (aheadL l k).toNat) = devN L j by omega]; exact e) n).2.2 hN
        omega
    have h2 := (h.lessM h0 hG.mis).2
    refine List.eq_nil_of_length_eq_zero (Nat.eq_zero_of_not_pos fun hp => ?_)
    obtain ⟨a, ha, hm⟩ := h2.1 hp
    have := miss_zero hm ha (by simp)
    rw [hG.hole ha (hall a ha)] at this
    cases this
theorem Enc7.foundP (h : Enc7 l sc k t z s kk u L f) (h1 : kk = 1) (hG : Lacks L f hr G) :
    ((faTo hr L L.length).length ≤ 1 → ∃ x, (x, s) ∈ triesOf l sc k t z G) ∧ (1 < (faTo hr L L.length).length → triesOf l sc k t z G = []) := by
  obtain ⟨hnd, hmem⟩ := faTo_nodup hr L L.length
  constructor
  · intro hle
    match hm : faTo hr L L.length, hle with
    | [], _ =>
      refine h.oneP h1 (d := -1) (hG.spo fun j hj hg => ?_)
      have : devN L j ∈ faTo hr L L.length := (hmem _).2 ⟨⟨j, hj, rfl⟩, hg⟩
      rw [hm] at this
      cases this
    | [d], _ =>
      refine h.oneP h1 (d := (d : Int)) (hG.spo fun j hj hg => ?_)
      have : devN L j ∈ faTo hr L L.length := (hmem _).2 ⟨⟨j, hj, rfl⟩, hg⟩
      rw [hm, List.mem_singleton] at this
      rw [h.devE hj, this]
      simp
  · intro hgt
    match hm : faTo hr L L.length, hgt with
    | a :: b :: r, _ =>
      rw [hm] at hnd hmem
      have hab : a ≠ b := by
        have := (List.nodup_cons.1 hnd).1
        exact fun e => this (by rw [e]; simp)
      obtain ⟨⟨i, hi, ei⟩, hri⟩ := (hmem a).1 (by simp)
      obtain ⟨⟨j, hj, ej⟩, hrj⟩ := (hmem b).1 (by simp)
      rcases h.kind.ok with h2 | ⟨_, h3, h8, e, _⟩
      · exact absurd (h1.symm.trans h2.1) (by decide)
      · have hz1 := h.blk.z1
        have hz4 := h.blk.z4
        have hl6 : L.length ≤ 6 := by rw [e, parTo_len0]; exact (par_fits u (by omega) h3 z (by omega) hz1).2.2
        have hdev : ∀ i (hi : i < L.length), L[i].dev = aheadL l k + (((t + i) % u : Nat) : Int) := fun i hi => by
          subst e
          obtain ⟨r, p, e⟩ := parTo_get (aheadL l k) t u z i hi
          rw [e]
          rfl
        have hrow : ∀ i, i < L.length → i < u → rowAt L i = 0 := fun i hi hu => by
          have := par_row0 u (by omega) h3 z (by omega) hz1 i (by omega) hu (rp L[i]) (by
            rw [← parTo_shape (aheadL l k) t u z, ← e, List.getElem?_map, List.getElem?_eq_getElem hi]
            rfl)
          rw [rowAt_eq hi]
          exact this
        have hmod : ∀ i, (t + i % u) % u = (t + i) % u := fun i => by rw [Nat.add_mod_mod]
        have hlt : ∀ i, i < L.length → i % u < L.length := fun i hi => Nat.lt_of_le_of_lt (Nat.mod_le _ _) hi
        have hsame : ∀ i, i < L.length → devN L (i % u) = devN L i := fun i hi => by
          have e1 := h.devE hi
          have e2 := h.devE (hlt i hi)
          rw [devAt_eq hi, hdev i hi] at e1
          rw [devAt_eq (hlt i hi), hdev _ (hlt i hi), hmod] at e2
          omega
        refine h.noneP h1 hG.mis (i := i % u) (j := j % u) (hlt i hi) (hlt j hj) (fun e => ?_) ?_ (hG.hole (hlt i hi) (by rw [hsame i hi, ei]; exact hri)) (hG.hole (hlt j hj) (by rw [hsame j hj, ej]; exact hrj))
        · have := hsame i hi
          rw [e, hsame j hj] at this
          exact hab (by omega)
        · rw [hrow _ (hlt i hi) (Nat.mod_lt _ (by omega)), hrow _ (hlt j hj) (Nat.mod_lt _ (by omega))]
/-- What Write says: too many lack, just if the text is among no tries of what is read raw. -/
theorem Enc7.found (h : Enc7 l sc k t z s kk u L f) (hG : Lacks L f hr G) {n : Nat} (hn : ∀ j, j < L.length → devN L j < n) {N : Nat} (hN : (faTo hr L L.length).length = N) {er : Int} (he : errN (l[k]'h.blk.hk) N = er) :
    (er = 0 ∧ ∃ x, (x, s) ∈ triesOf l sc k t z G) ∨ (er = 6 ∧ triesOf l sc k t z G = []) := by
  rw [h.grpE] at he
  unfold errN spareN at he
  simp only at he
  rcases h.kind.ok with h0 | h1
  · have hf := h.foundM h0.1 hG hn
    rw [← faTo_lack hr L n hn, hN] at hf
    rw [if_pos h0.1] at he
    by_cases hlt : N < u
    · rw [if_neg (by omega)] at he
      exact .inl ⟨he.symm, hf.1 hlt⟩
    · rw [if_pos (by omega)] at he
      exact .inr ⟨he.symm, hf.2 (by omega)⟩
  · have hf := h.foundP h1.1 hG
    rw [hN] at hf
    have hk1 : ¬ kk = 0 := by rw [h1.1]; decide
    rw [if_neg hk1] at he
    by_cases hlt : N ≤ 1
    · rw [if_neg (by omega)] at he
      exact .inl ⟨he.symm, hf.1 hlt⟩
    · rw [if_pos (by omega)] at he
      exact .inr ⟨he.symm, hf.2 (by omega)⟩
end
end Go.Proofs.YtlhnmcopioeboaaGreat
