/-
  The law for a range over a function of two values: the second one, or both, are moved to slots.
  The document's example: polderlaw07.awake.
-/
import Derived.Test.YtpalgadokdcgnaaMd

/- The law for a range over a function of two values: the second one, or both, are moved to slots. -/
namespace Go.Proofs.Ytpalgadokdcgnaa
set_option maxRecDepth 100000
open Go.RowKit

/-- for _, y := range: slot t2 is moved to slot d. -/
theorem wpIn_range_second (t1 t2 d : Nat) {F : Fence} {n : Nat} {P : Program} {α : Type} {g : Operand} {ps : Array Tmp} {assign body : Code} {Q : Exit → Act → World → Prop} {a : Act} {w : World}
    (hro : F.round = none) (h1 : 1 ≤ n) {gf : Nat} {lb : Array Value} (hg : a.eval g = .func (.func gf) #[] lb) (hFg : F.fn gf) (eg : ∀ args w, (callFunc gf args).run P w = .ok (.enter gf args) w)
    (v1 v2 : α → Value) {xs : List α} {w0 : World} {B : Nat} (hseq : HandsS F (n - 1) P gf lb (fun x => #[v1 x, v2 x]) xs B w0) (hb0 : Since B w0 w) (hps : ps.size = 2)
    (I : Nat → World → Prop) (Ix : Code → Nat → World → Prop) (hI : Stands w.heap.size I) (hIx : ∀ c, Stands w.heap.size (Ix c)) (hIK : ∀ k X, I k X → Since B w0 X) (h0 : I 0 w)
    (hassign : ∀ (l : Nat) (x : α) (W : World),
      assign.wpIn (F.inRound l) (n - 1 - 1) P (Exit.then (fun a' W' => a' = { tmps := ((a.tmps.setIfInBounds t1 (v1 x)).setIfInBounds t2 (v2 x)).setIfInBounds d (v2 x), defers := [] } ∧ W' = W) (fun _ _ _ => False)) { tmps := (ps.zip #[v1 x, v2 x]).foldl (fun t (p, v) => t.setIfInBounds p v) a.tmps, defers := [] } W)
    (hbody : ∀ (l k : Nat) (x : α) (W : World), xs[k]? = some x → I k W → body.wpIn (F.inRound l) (n - 1 - 1) P (leftBy w.heap.size I Ix (k + 1) W) { tmps := ((a.tmps.setIfInBounds t1 (v1 x)).setIfInBounds t2 (v2 x)).setIfInBounds d (v2 x), defers := [] } W)
    (hdone : ∀ (D : Nat) (W : World), w.heap.size ≤ D → I xs.length W → W.heap[D]? = some (.deferred (some [])) → Q .normal { a with defers := { target := .collected D, args := #[] } :: a.defers } W)
    (hstop : ∀ (D : Nat) (c : Code) (k : Nat) (W : World), w.heap.size ≤ D → k ≤ xs.length → Ix c k W → W.heap[D]? = some (.deferred (some [])) → c.wpIn F n P Q { a with defers := { target := .collected D, args := #[] } :: a.defers } W) :
    (Code.rangeFunc g ps assign body).wpIn F n P Q a w :=
  wpIn_range_handsS hro h1 hg hFg eg hseq hb0 (fun _ => hps.symm) I Ix hI hIx hIK h0 (fun x => { tmps := ((a.tmps.setIfInBounds t1 (v1 x)).setIfInBounds t2 (v2 x)).setIfInBounds d (v2 x), defers := [] })
    (fun l x W K hK => wpIn_mono (hassign l x W) (fun e a' W' h => by
      cases e with
      | normal => obtain ⟨rfl, rfl⟩ := h; exact hK
      | _ => exact h))
    hbody hdone hstop

/-- for x, y := range: slots t1 and t2 are moved to slots d1 and d2. -/
theorem wpIn_range_both (t1 t2 d1 d2 : Nat) {F : Fence} {n : Nat} {P : Program} {α : Type} {g : Operand} {ps : Array Tmp} {assign body : Code} {Q : Exit → Act → World → Prop} {a : Act} {w : World}
    (hro : F.round = none) (h1 : 1 ≤ n) {gf : Nat} {lb : Array Value} (hg : a.eval g = .func (.func gf) #[] lb) (hFg : F.fn gf) (eg : ∀ args w, (callFunc gf args).run P w = .ok (.enter gf args) w)
    (v1 v2 : α → Value) {xs : List α} {w0 : World} {B : Nat} (hseq : HandsS F (n - 1) P gf lb (fun x => #[v1 x, v2 x]) xs B w0) (hb0 : Since B w0 w) (hps : ps.size = 2)
    (I : Nat → World → Prop) (Ix : Code → Nat → World → Prop) (hI : Stands w.heap.size I) (hIx : ∀ c, Stands w.heap.size (Ix c)) (hIK : ∀ k X, I k X → Since B w0 X) (h0 : I 0 w)
    (hassign : ∀ (l : Nat) (x : α) (W : World),
      assign.wpIn (F.inRound l) (n - 1 - 1) P (Exit.then (fun a' W' => a' = { tmps := (((a.tmps.setIfInBounds t1 (v1 x)).setIfInBounds t2 (v2 x)).setIfInBounds d1 (v1 x)).setIfInBounds d2 (v2 x), defers := [] } ∧ W' = W) (fun _ _ _ => False)) { tmps := (ps.zip #[v1 x, v2 x]).foldl (fun t (p, v) => t.setIfInBounds p v) a.tmps, defers := [] } W)
    (hbody : ∀ (l k : Nat) (x : α) (W : World), xs[k]? = some x → I k W → body.wpIn (F.inRound l) (n - 1 - 1) P (leftBy w.heap.size I Ix (k + 1) W) { tmps := (((a.tmps.setIfInBounds t1 (v1 x)).setIfInBounds t2 (v2 x)).setIfInBounds d1 (v1 x)).setIfInBounds d2 (v2 x), defers := [] } W)
    (hdone : ∀ (D : Nat) (W : World), w.heap.size ≤ D → I xs.length W → W.heap[D]? = some (.deferred (some [])) → Q .normal { a with defers := { target := .collected D, args := #[] } :: a.defers } W)
    (hstop : ∀ (D : Nat) (c : Code) (k : Nat) (W : World), w.heap.size ≤ D → k ≤ xs.length → Ix c k W → W.heap[D]? = some (.deferred (some [])) → c.wpIn F n P Q { a with defers := { target := .collected D, args := #[] } :: a.defers } W) :
    (Code.rangeFunc g ps assign body).wpIn F n P Q a w :=
  wpIn_range_handsS hro h1 hg hFg eg hseq hb0 (fun _ => hps.symm) I Ix hI hIx hIK h0 (fun x => { tmps := (((a.tmps.setIfInBounds t1 (v1 x)).setIfInBounds t2 (v2 x)).setIfInBounds d1 (v1 x)).setIfInBounds d2 (v2 x), defers := [] })
    (fun l x W K hK => wpIn_mono (hassign l x W) (fun e a' W' h => by
      cases e with
      | normal => obtain ⟨rfl, rfl⟩ := h; exact hK
      | _ => exact h))
    hbody hdone hstop
end Go.Proofs.Ytpalgadokdcgnaa

/- The document's example: polderlaw07.awake. -/
namespace Go.Proofs.Ytpalgadokdcgnaa
set_option maxRecDepth 100000
open Go.RowKit Go.Shelf M
attribute [local go_sem] Oper.semAt_some

theorem ex7_cols : colsOf [(1, 3)] 0 0 2 = [⟨0, 16, true, 0⟩, ⟨1, 16, false, 0⟩, ⟨2, 16, false, 0⟩] := by rfl
theorem ex7_blk : Blk [(1, 3)] 24 0 0 2 := ⟨rightM_iff.1 (by decide), by decide, by decide, by decide, by decide⟩
theorem ex7_enc : encOf [(1, 3)] 0 0 2 (zeroB 128) = [zeroB 64, zeroB 64, zeroB 64] := by kernel_rfl
theorem ex7_devs : devsS [1, 2] = [1, 2] := by
  refine lt_ext _ _ (devsS_spec _).1 (by decide) fun x => (devsS_spec _).2 x
theorem ex7_tries : triesOf [(1, 3)] 24 0 0 2 [zeroB 64, ⟨#[]⟩, zeroB 64] = [(1, zeroB 128)] := by
  have h : triesOf [(1, 3)] 24 0 0 2 [zeroB 64, ⟨#[]⟩, zeroB 64] = triesP [⟨0, 16, true, 0⟩, ⟨1, 16, false, 0⟩, ⟨2, 16, false, 0⟩] [zeroB 64, ⟨#[]⟩, zeroB 64] (-1 :: devsS [1, 2]) := by kernel_rfl
  have h2 : triesP [⟨0, 16, true, 0⟩, ⟨1, 16, false, 0⟩, ⟨2, 16, false, 0⟩] [zeroB 64, ⟨#[]⟩, zeroB 64] [-1, 1, 2] = [(1, zeroB 128)] := by kernel_rfl
  rw [h, ex7_devs, h2]

/-- What stands while tries come: the answer's cell, the text, and how many have come. -/
structure AW (w w7 : World) (B cb cn : Nat) (Z : ByteArray) (k : Nat) (X : World) : Prop where
  since : Since B w7 X
  below : Below w.heap.size w X
  r : X.cell? ⟨w.heap.size, 0, none⟩ = some (.bool false)
  rf : X.frozen? ⟨w.heap.size, 0, none⟩ = false
  b : X.cell? ⟨cb, 0, none⟩ = some (.string Z)
  n : X.cell? ⟨cn, 0, none⟩ = some (.int .i64 (k : Int))
  nf : X.frozen? ⟨cn, 0, none⟩ = false
theorem Since.below {B : Nat} {W X Y : World} (h : Since B W X) (k : Below W.heap.size X Y) : Since B W Y :=
  ⟨Nat.le_trans h.size k.size, fun j hj hl => (k.block j hl).trans (h.same j hj hl)⟩
theorem AW.within {w w7 : World} {B cb cn : Nat} {Z : ByteArray} {k : Nat} {X Y : World} (h : AW w w7 B cb cn Z k X) (hb : Below w7.heap.size X Y) (h1 : w.heap.size < w7.heap.size) (h2 : cb < w7.heap.size) (h3 : cn < w7.heap.size) (_ : w.heap.size < cn) : AW w w7 B cb cn Z k Y :=
  ⟨h.since.below hb, h.below.trans (hb.mono (Nat.le_of_lt h1)), (hb.cell (p := ⟨w.heap.size, 0, none⟩) h1).trans h.r, (hb.frozen (p := ⟨w.heap.size, 0, none⟩) h1).trans h.rf, (hb.cell (p := ⟨cb, 0, none⟩) h2).trans h.b, (hb.cell (p := ⟨cn, 0, none⟩) h3).trans h.n, (hb.frozen (p := ⟨cn, 0, none⟩) h3).trans h.nf⟩

theorem AW.count {w w7 : World} {B cb cn : Nat} {Z : ByteArray} {k : Nat} {X : World} (h : AW w w7 B cb cn Z k X) (h1 : w.heap.size < cb) (h2 : cb < cn) (h3 : cn < B) (m : Int) (hm : m = ((k + 1 : Nat) : Int)) : AW w w7 B cb cn Z (k + 1) (X.setCell ⟨cn, 0, none⟩ (.int .i64 m)) := by
  subst hm
  refine ⟨h.since.setCell (p := ⟨cn, 0, none⟩) h3 _, h.below.setCell (p := ⟨cn, 0, none⟩) (by show w.heap.size ≤ cn; omega) _, ?_, ?_, ?_, ?_, ?_⟩
  · rw [World.cell?_setCell_other _ _ _ _ (by intro e; cases e; omega)]; exact h.r
  · rw [World.frozen?_setCell]; exact h.rf
  · rw [World.cell?_setCell_other _ _ _ _ (by intro e; cases e; omega)]; exact h.b
  · rw [World.cell?_setCell_same _ _ _ h.n]
  · rw [World.frozen?_setCell]; exact h.nf
/-- A function that told its answer, behind a range over a function. -/
theorem told {w X : World} {D : Nat} {b : Bool} (hD : w.heap.size < D) (hB : Below w.heap.size w X) (hr : X.cell? ⟨w.heap.size, 0, none⟩ = some (.bool false)) (hK : X.heap[D]? = some (.deferred (some []))) :
    (X.setCell ⟨w.heap.size, 0, none⟩ (.bool b)).heap[D]? = some (.deferred (some [])) ∧ Below w.heap.size w ((X.setCell ⟨w.heap.size, 0, none⟩ (.bool b)).putObj D (.deferred none)) ∧ ((X.setCell ⟨w.heap.size, 0, none⟩ (.bool b)).putObj D (.deferred none)).cell? ⟨w.heap.size, 0, none⟩ = some (.bool b) := by
  have h1 : (X.setCell ⟨w.heap.size, 0, none⟩ (.bool b)).heap[D]? = some (.deferred (some [])) := (Below.heap_setCell _ _ _ _ (by show D ≠ w.heap.size; omega)).trans hK
  have h2 : Below w.heap.size w (X.setCell ⟨w.heap.size, 0, none⟩ (.bool b)) := hB.setCell (p := ⟨w.heap.size, 0, none⟩) (Nat.le_refl _) _
  refine ⟨h1, below_putObj h2 (by omega) _, ?_⟩
  rw [(below_putObj (Below.refl D _) (Nat.le_refl D) (.deferred none)).cell (p := ⟨w.heap.size, 0, none⟩) hD, World.cell?_setCell_same _ _ _ hr]

set_option maxHeartbeats 2000000 in
theorem cawake_any (w : World) : Calls Try.prog 8 #[] w fun e w' => e = .returned (.bool true) ∧ Below w.heap.size w w' := by
  refine (callsIn_wide (n := 5)).1 ?_
  refine callsIn_of_wp_marks Try.func8 rfl trivial (wpIn_wide.2 ?_) rfl
  simp only [Try.ntmps8, List.size_toArray, List.length_nil, Nat.reduceSub, Array.replicate_succ, Array.replicate_zero, List.push_toArray, List.append_toArray, List.nil_append, List.cons_append]
  go_wp2_with fail
  have hM : Meas ((w.alloc (.cells #[.bool false] 4)).alloc (.cells #[.int .i64 1, .int .i64 3] 37)) (.agg #[.slice (some ⟨w.heap.size + 1, 0, none⟩) 1 1, .int .i64 24]) [(1, 3)] 24 := by
    refine ⟨_, _, _, rfl, ⟨by decide, rfl, fun i hi => ?_⟩, by omega, by omega⟩
    obtain rfl : i = 0 := by simpa using hi
    exact ⟨_, _, rfl, ⟨by simp, by simp, by simp, by simp, by simp, by simp, by simp⟩⟩
  have K0 := Held.start hM
  have b0 : Below w.heap.size w ((w.alloc (.cells #[.bool false] 4)).alloc (.cells #[.int .i64 1, .int .i64 3] 37)) := next (boxed _ _) (boxed _ _)
  have r0 : ((w.alloc (.cells #[.bool false] 4)).alloc (.cells #[.int .i64 1, .int .i64 3] 37)).cell? ⟨w.heap.size, 0, none⟩ = some (.bool false) := box_kept rfl (boxed _ _)
  have f0 : ((w.alloc (.cells #[.bool false] 4)).alloc (.cells #[.int .i64 1, .int .i64 3] 37)).frozen? ⟨w.heap.size, 0, none⟩ = false := by
    rw [(boxed _ _).frozen (p := ⟨w.heap.size, 0, none⟩) (by simp)]; exact World.frozen?_alloc_at _ _ _ _ rfl
  have s0 : ((w.alloc (.cells #[.bool false] 4)).alloc (.cells #[.int .i64 1, .int .i64 3] 37)).heap.size = w.heap.size + 2 := by simp
  have s0' : (((w.alloc (.cells #[.bool false] 4)).alloc (.cells #[.int .i64 1, .int .i64 3] 37)).alloc (.cells #[.slice (some ⟨w.heap.size + 1, 0, none⟩) 1 1, .int .i64 24] 24)).heap.size = w.heap.size + 3 := by simp
  generalize (w.alloc (.cells #[.bool false] 4)).alloc (.cells #[.int .i64 1, .int .i64 3] 37) = w0 at hM K0 b0 r0 f0 s0 s0'
  generalize hw1 : w0.alloc (.cells #[.slice (some ⟨w.heap.size + 1, 0, none⟩) 1 1, .int .i64 24] 24) = w1 at K0 s0'
  have hb1 : Below w0.heap.size w0 w1 := K0.below
  have hm : (Instr.makeSlice 48 (.int .i64 128) (.int .i64 128)).run Try.prog w1 = .ok (.slice (some ⟨w1.heap.size, 0, none⟩) 128 128) (zerosW w1 128) := make_zeros w1 128 (by decide)
  have hc : (convert 48 9 (.slice (some ⟨w1.heap.size, 0, none⟩) 128 128)).run Try.prog (zerosW w1 128) = .ok (.string (zeroB 128)) (zerosW w1 128) := conv_zeros w1 128
  generalize hz : zeroB 128 = Z at hc
  have HZ := Lib.hid hz
  clear hz
  have hb2 := zerosW_below w1 128
  generalize zerosW w1 128 = w2 at hm hc hb2
  have K2 := Lib.hid ((K0.next hb2).next (boxed w2 (.cells #[.string Z] 9)))
  have hs2 := hb2.size
  have hbz : (w2.alloc (.cells #[.string Z] 9)).cell? ⟨w2.heap.size, 0, none⟩ = some (.string Z) := box_now _ _ _ rfl
  have hr2 := ((next (next hb1 hb2) (boxed w2 (.cells #[.string Z] 9))).cell (p := ⟨w.heap.size, 0, none⟩) (by show w.heap.size < w0.heap.size; omega)).trans r0
  have hf2 := ((next (next hb1 hb2) (boxed w2 (.cells #[.string Z] 9))).frozen (p := ⟨w.heap.size, 0, none⟩) (by show w.heap.size < w0.heap.size; omega)).trans f0
  have B2 := Lib.hid (next b0 (next (next hb1 hb2) (boxed w2 (.cells #[.string Z] 9))))
  rw [hm]
  rw [s0'] at hc hs2
  rw [s0] at K2
  have k0 := K2.out.c0
  have k1 := K2.out.c1
  clear K0 hb1 hb2 hm hM r0 f0 b0 hw1
  go_wp2_with fail
  clear hc
  refine (encode_ok [(1, 3)] 24 _ _ K2.out.m 0 0 2 ex7_blk Z (by rw [← HZ.out, zeroB_size])).mono ?_
  rintro e w4 ⟨v4, rfl, hO4, b4⟩
  have hO4' : Own w4 (w2.alloc (.cells #[.string Z] 9)).heap.size v4 [zeroB 64, zeroB 64, zeroB 64] := by rw [← ex7_enc, HZ.out]; exact hO4
  replace hO4 := hO4'
  clear hO4'
  obtain ⟨a4, c4, e4, -⟩ := hO4.txt
  have e4' : v4 = .slice a4 3 c4 := e4
  subst e4'
  clear e4
  obtain ⟨g4, rfl, hg4B, hg4, _, hc4, hfz, hcl⟩ := hO4.at_ (by decide)
  have hc41 := hcl 1 (by decide)
  have hf41 := hfz 1 (by decide)
  have e41 : ([zeroB 64, zeroB 64, zeroB 64] : List ByteArray)[1] = zeroB 64 := rfl
  rw [e41] at hc41
  have hs4 := b4.size
  have b5 : Below (w2.alloc (.cells #[.string Z] 9)).heap.size (w2.alloc (.cells #[.string Z] 9)) ((w4.setCell ⟨g4, 1, none⟩ (.string ⟨#[]⟩)).alloc (.cells #[.int .i64 0] 3)) :=
    (b4.setCell (p := ⟨g4, 1, none⟩) hg4B _).alloc (by simp [World.setCell]; simpa using hs4) _
  have K5 := Lib.hid (K2.out.next b5)
  have B5 := Lib.hid (next B2.out b5)
  have hO5 := (hO4.set 1 (by decide) ⟨#[]⟩).alloc (.cells #[.int .i64 0] 3)
  have eset : ([zeroB 64, zeroB 64, zeroB 64] : List ByteArray).set 1 ⟨#[]⟩ = [zeroB 64, ⟨#[]⟩, zeroB 64] := rfl
  rw [eset] at hO5
  have HO5 := Lib.hid hO5
  have hbz5 := (b5.cell (p := ⟨w2.heap.size, 0, none⟩) (by simp)).trans hbz
  have hr5 := (b5.cell (p := ⟨w.heap.size, 0, none⟩) (by simp; omega)).trans hr2
  have hf5 := (b5.frozen (p := ⟨w.heap.size, 0, none⟩) (by simp; omega)).trans hf2
  have k50 : ((w4.setCell ⟨g4, 1, none⟩ (.string ⟨#[]⟩)).alloc (.cells #[.int .i64 0] 3)).cell? ⟨w.heap.size + 1 + 1, 0, none⟩ = _ := K5.out.c0
  have k51 : ((w4.setCell ⟨g4, 1, none⟩ (.string ⟨#[]⟩)).alloc (.cells #[.int .i64 0] 3)).cell? ⟨w.heap.size + 1 + 1, 1, none⟩ = _ := K5.out.c1
  have hn5 : ((w4.setCell ⟨g4, 1, none⟩ (.string ⟨#[]⟩)).alloc (.cells #[.int .i64 0] 3)).cell? ⟨w4.heap.size, 0, none⟩ = some (.int .i64 0) := box_now _ _ _ (by simp [World.setCell])
  have hnf5 : ((w4.setCell ⟨g4, 1, none⟩ (.string ⟨#[]⟩)).alloc (.cells #[.int .i64 0] 3)).frozen? ⟨w4.heap.size, 0, none⟩ = false := by
    have e : (w4.setCell ⟨g4, 1, none⟩ (.string ⟨#[]⟩)).heap.size = w4.heap.size := by simp [World.setCell]
    rw [← e]; exact World.frozen?_alloc_at _ _ _ _ rfl
  have hs5 : ((w4.setCell ⟨g4, 1, none⟩ (.string ⟨#[]⟩)).alloc (.cells #[.int .i64 0] 3)).heap.size = w4.heap.size + 1 := by simp [World.setCell]
  rw [World.size_alloc] at hs4 hg4B
  have HS5 := Lib.hid hs5
  clear hO4 hO5 hcl hfz b4 K2 B2 hbz hr2 hf2 k0 k1 e41 eset b5 hs5
  go_wp2_with fail
  refine (tries_any [(1, 3)] 24 _ _ K5.out.m 0 0 2 (by decide) (by decide) (by decide) [zeroB 64, ⟨#[]⟩, zeroB 64] _ HO5.out.txt (by decide)).mono ?_
  rintro e w7 ⟨v7, rfl, hS7, b7⟩
  rw [ex7_tries, HZ.out] at hS7
  obtain ⟨gf, lb, rfl, eg, hH⟩ := hS7
  rw [HS5.out] at b7 hH
  have hs7 := b7.size
  have B7 : Hid (Below w.heap.size w w7) := Lib.hid (next B5.out (by rw [HS5.out]; exact b7))
  rw [HS5.out] at hs7
  have hA : AW w w7 (w4.heap.size + 1) w2.heap.size w4.heap.size Z 0 w7 := ⟨Since.refl _ _, B7.out, (b7.cell (p := ⟨w.heap.size, 0, none⟩) (by show w.heap.size < _; omega)).trans hr5, (b7.frozen (p := ⟨w.heap.size, 0, none⟩) (by show w.heap.size < _; omega)).trans hf5,
    (b7.cell (p := ⟨w2.heap.size, 0, none⟩) (by show w2.heap.size < _; omega)).trans hbz5, (b7.cell (p := ⟨w4.heap.size, 0, none⟩) (by show w4.heap.size < _; omega)).trans hn5, (b7.frozen (p := ⟨w4.heap.size, 0, none⟩) (by show w4.heap.size < _; omega)).trans hnf5⟩
  have HA := Lib.hid hA
  have HEG := Lib.hid eg
  have HHH := Lib.hid hH
  clear hA eg hH b7 hr5 hf5 hbz5 hn5 hnf5 k50 k51 K5 B5 HO5 hc41 hf41 hg4
  generalize w4.heap.size = cn at *
  generalize w2.heap.size = cb at *
  go_wp2_with fail
  refine (wpIn_wide (n := 5)).1 ?_
  refine wpIn_range_second 33 34 7 rfl (by omega) rfl trivial HEG.out (fun x : Int × ByteArray => .int .i64 x.1) (fun x => .string x.2) (HHH.out _ (by decide)) (Since.refl _ _) rfl
    (fun k W => AW w w7 (cn + 1) cb cn Z k W)
    (fun _ _ _ => False)
    (fun k X Y h hb => h.within hb (by omega) (by omega) (by omega) (by omega))
    (fun _ _ _ _ h _ => h)
    (fun k X h => h.since)
    HA.out ?assign ?body ?done ?stop
  case assign =>
    intro l y W
    gi_wp2
    exact ⟨rfl, trivial⟩
  case body =>
    intro l k y W hy hL
    simp only [List.setIfInBounds_toArray, List.set_cons_succ, List.set_cons_zero]
    obtain ⟨rfl, rfl⟩ : k = 0 ∧ y = (1, Z) := by
      cases k with
      | zero => exact ⟨rfl, (Option.some.inj hy).symm⟩
      | succ k => cases hy
    have HL := Lib.hid hL
    obtain ⟨_, _, r1, r2, b1, n1, n2⟩ := hL
    dsimp only
    gi_wp2
    exact ⟨(Since.refl _ _).setCell (p := ⟨cn, 0, none⟩) (by show cn < _; omega) _, HL.out.count (by omega) (by omega) (by omega) _ rfl⟩
  case done =>
    intro D W hD hL hK
    have HL := Lib.hid hL
    obtain ⟨_, hB, r1, r2, b1, n1, n2⟩ := hL
    go_wp2
    obtain ⟨hK', hB', hr'⟩ := told (b := true) (by omega) hB r1 hK
    refine ⟨by simp, .inl ⟨_, _, rfl, run_takeDeferred hK', ?_⟩⟩
    refine ⟨.bool true, ?_, rfl, hB'⟩
    simp [results, Try.f8, go_sem, hr']
  case stop =>
    rintro D c k W _ _ h _
    exact h.elim
end Go.Proofs.Ytpalgadokdcgnaa
