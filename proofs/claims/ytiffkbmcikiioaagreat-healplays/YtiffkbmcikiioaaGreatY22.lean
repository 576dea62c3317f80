/-
  Texts, and rows of texts, that are the call's own.
  A region that draws its order, whose last operation may write what others read: an operation that yields its value wherever S holds may be taken first; S is to be shown behind each operation but that last one.
  code.Encode: a block's columns' texts.
-/
import Derived.Test.YtiffkbmcikiioaaGreatY21
import Derived.Test.YtiffkbmcikiioaaGreatY06
import Derived.Test.YtiffkbmcikiioaaGreatChecked
import Derived.OrdersHeld
import Derived.Deep.RegionHeld
import Derived.Test.YtiffkbmcikiioaaGreatY11

/- Texts, and rows of texts, that are the call's own. -/
namespace Go.Proofs.YtiffkbmcikiioaaGreat
set_option maxRecDepth 100000
open Go.RowKit M

theorem Own.lower {w : World} {B B' : Nat} {v : Value} {l : List ByteArray} (h : Own w B v l) (hB : B' ≤ B) : Own w B' v l := by
  refine ⟨h.1, ?_⟩
  rcases h.2 with hn | ⟨g, cap, cur, rfl, hB', hg, rest⟩
  · exact .inl hn
  · exact .inr ⟨g, cap, cur, rfl, Nat.le_trans hB hB', hg, rest⟩
theorem Own.kept {w w' : World} {B : Nat} {row : Option Nat} {v : Value} {l : List ByteArray} (h : Own w B v l) (hg : w.grownBy w' row) (hne : ∀ b, v.ownBlock = some b → row ≠ some b) : Own w' B v l := by
  refine World.ownsRow.kept h hg ?_
  cases e : v.ownBlock with
  | none => exact .inl rfl
  | some b => exact .inr fun e' => hne b e e'.symm
/-- append(v, x): what is turned is the row's own block alone, and the answer lies there or is new. -/
theorem app_row (w : World) (B : Nat) (v : Value) (l : List ByteArray) (x : ByteArray) (g o c : Nat) (hv : Own w B v l) (hx : w.cell? ⟨g, o, none⟩ = some (.string x)) (hB : B ≤ w.heap.size) (hn : l.length + 1 ≤ 4294967296) (ty : TypeId) :
    ∃ v' w', (Builtin.append_ #[60, 60] ty #[v, .slice (some ⟨g, o, none⟩) 1 c]).run Tryz.prog w = .ok v' w' ∧ Own w' B v' (l ++ [x]) ∧ w.grownBy w' v.ownBlock ∧ ∃ b, v'.ownBlock = some b ∧ (v.ownBlock = some b ∨ w.heap.size ≤ b) := by
  obtain ⟨i, hi, hz, hs, hb⟩ := info_str
  have hnews : ∀ (j : Nat) (u : Value), ([Value.string x] : List Value)[j]? = some u → w.cell? ((⟨g, o, none⟩ : Addr).add j) = some u := fun j u hu => by
    obtain rfl : j = 0 := by
      have := (List.getElem?_eq_some_iff.1 hu).1
      simpa using this
    rw [Go.WideShapes.add_plain, Nat.add_zero, hx]
    simpa using hu
  have hone : ∀ u ∈ ([Value.string x] : List Value), u.oneCell' = true := fun u hu => by rw [List.mem_singleton.1 hu]; rfl
  have key : ∀ B', B' ≤ w.heap.size → Own w B' v l → ∃ v' w', (Builtin.append_ #[60, 60] ty #[v, .slice (some ⟨g, o, none⟩) 1 c]).run Tryz.prog w = .ok v' w' ∧ Own w' B' v' (l ++ [x]) ∧ w.grownBy w' v.ownBlock ∧ v' ≠ .slice none 0 0 := by
    intro B' hB' hv'
    obtain ⟨v', w', h1, h2, h3, h4⟩ := run_append_own (P := Tryz.prog) w B' 60 ty 9 i (.string ⟨#[]⟩) 1 16 Tryz.underlying60 hi hz hs hb rfl (by decide) v l.length (l.map Value.string) hv'
      ⟨g, o, none⟩ 1 c [.string x] rfl hnews hone (by unfold maxLen; omega) (by omega) hB'
    refine ⟨v', w', h1, ?_, h3, fun e => ?_⟩
    · rw [Own, List.length_append, List.map_append]; exact h2
    · have := (h4.1 e).2; omega
  rcases hv.2 with ⟨rfl, h0⟩ | ⟨gv, cap, cur, rfl, hBg, hg, hnc, hcm, hcs, ht⟩
  · have hl : l = [] := List.eq_nil_of_length_eq_zero h0
    subst hl
    obtain ⟨v', w', h1, h2, h3, h4⟩ := key w.heap.size (Nat.le_refl _) (World.ownsRow_nil _ _ _ _)
    refine ⟨v', w', h1, h2.lower hB, h3, ?_⟩
    rcases h2.2 with ⟨e, _⟩ | ⟨gb, _, _, e, hb', _⟩
    · exact absurd e h4
    · exact ⟨gb, by rw [e]; rfl, .inr hb'⟩
  · obtain ⟨v', w', h1, h2, h3, h4⟩ := key B hB hv
    refine ⟨v', w', h1, h2, h3, ?_⟩
    by_cases hroom : l.length + 1 ≤ cap
    · have hr := run_append_room (P := Tryz.prog) w 60 ty 9 i Tryz.underlying60 hi gv l.length cap cur hg ⟨g, o, none⟩ 1 c [.string x] (by simp [hs]) hnews hone hroom (by rw [hs, hcs]; simp; omega)
      rw [hr] at h1
      cases h1
      exact ⟨gv, rfl, .inl rfl⟩
    · have hr := run_append_grow (P := Tryz.prog) w 60 ty 9 i (.string ⟨#[]⟩) Tryz.underlying60 hi hz ⟨gv, 0, none⟩ l.length cap (l.map Value.string) (by rw [hs]; exact hv.1) (hv.cells (g := gv) rfl) ⟨g, o, none⟩ 1 c [.string x] (by simp [hs]) hnews (by omega) (by omega) (growslice_fits (by omega) (by rw [hb]; omega))
      rw [hr] at h1
      cases h1
      exact ⟨w.heap.size, rfl, .inr (Nat.le_refl _)⟩

/-- Texts X in block gt, and in block gr R rows: row r is the slice V r, the texts T r. -/
structure Enc (w : World) (B gt gr n R : Nat) (X : List ByteArray) (V : Nat → Value) (T : Nat → List ByteArray) : Prop where
  hB : B ≤ w.heap.size
  bt : B ≤ gt
  br : B ≤ gr
  tr : gt ≠ gr
  own : Own w B (.slice (some ⟨gt, 0, none⟩) n n) X
  lt : gr < w.heap.size
  tlt : gt < w.heap.size
  cell : ∀ r, r < R → w.cell? ⟨gr, r, none⟩ = some (V r)
  frz : ∀ r, r < R → w.frozen? ⟨gr, r, none⟩ = false
  rows : ∀ r, r < R → Own w B (V r) (T r)
  apart : ∀ r, r < R → ∀ b, (V r).ownBlock = some b → b ≠ gt ∧ b ≠ gr
  each : ∀ r r', r < R → r' < R → r ≠ r' → ∀ b, (V r).ownBlock = some b → (V r').ownBlock ≠ some b
theorem grown_below {w w' : World} (h : Below w.heap.size w w') : w.grownBy w' none := ⟨h.os, h.tape, h.output, h.size, fun k hk _ => h.block k hk⟩
theorem Enc.next {w w' : World} {B gt gr n R : Nat} {X : List ByteArray} {V : Nat → Value} {T : Nat → List ByteArray} (h : Enc w B gt gr n R X V T) (k : Below w.heap.size w w') : Enc w' B gt gr n R X V T :=
  ⟨Nat.le_trans h.hB k.size, h.bt, h.br, h.tr, h.own.below k, Nat.lt_of_lt_of_le h.lt k.size, Nat.lt_of_lt_of_le h.tlt k.size, fun r hr => by rw [k.cell (p := ⟨gr, r, none⟩) h.lt]; exact h.cell r hr,
    fun r hr => by rw [k.frozen (p := ⟨gr, r, none⟩) h.lt]; exact h.frz r hr, fun r hr => (h.rows r hr).below k, h.apart, h.each⟩
theorem grown_set (w : World) (p : Addr) (v : Value) : w.grownBy (w.setCell p v) (some p.block) :=
  ⟨rfl, rfl, rfl, by simp [World.setCell], fun k _ hk => Below.heap_setCell _ _ _ _ (fun e => hk (by rw [e]))⟩
/-- A text laid anew. -/
theorem Enc.text {w : World} {B gt gr n R : Nat} {X : List ByteArray} {V : Nat → Value} {T : Nat → List ByteArray} (h : Enc w B gt gr n R X V T) (k : Nat) (hk : k < n) (x : ByteArray) : Enc (w.setCell ⟨gt, k, none⟩ (.string x)) B gt gr n R (X.set k x) V T := by
  have hg := grown_set w ⟨gt, k, none⟩ (.string x)
  have hgr := hg.block gr h.lt (fun e => h.tr (Option.some.inj e).symm)
  exact ⟨Nat.le_trans h.hB hg.size, h.bt, h.br, h.tr, h.own.set k hk x, Nat.lt_of_lt_of_le h.lt hg.size, Nat.lt_of_lt_of_le h.tlt hg.size, fun r hr => by rw [World.cell?_of_block (w := w) (a := ⟨gr, r, none⟩) hgr]; exact h.cell r hr,
    fun r hr => by rw [World.frozen?_of_block (w := w) (a := ⟨gr, r, none⟩) hgr]; exact h.frz r hr, fun r hr => (h.rows r hr).kept hg fun b hb e => (h.apart r hr b hb).1 (Option.some.inj e).symm, h.apart, h.each⟩
/-- A row with a text more. -/
theorem Enc.push {w w' : World} {B gt gr n R : Nat} {X : List ByteArray} {V : Nat → Value} {T : Nat → List ByteArray} (h : Enc w B gt gr n R X V T) (r : Nat) (hr : r < R) (v' : Value) (T' : List ByteArray) (hg : w.grownBy w' (V r).ownBlock) (ho : Own w' B v' T')
    (hb : ∃ b, v'.ownBlock = some b ∧ ((V r).ownBlock = some b ∨ w.heap.size ≤ b)) :
    Enc (w'.setCell ⟨gr, r, none⟩ v') B gt gr n R X (fun i => if i = r then v' else V i) (fun i => if i = r then T' else T i) := by
  obtain ⟨b, hb1, hb2⟩ := hb
  have hs := grown_set w' ⟨gr, r, none⟩ v'
  have hbt : b ≠ gt ∧ b ≠ gr := by
    rcases hb2 with hb2 | hb2
    · exact h.apart r hr b hb2
    · have := h.lt; have := h.tlt; omega
  have hgr := hg.block gr h.lt (fun e => (h.apart r hr gr e.symm).2 rfl)
  have hltr : gr < w'.heap.size := Nat.lt_of_lt_of_le h.lt hg.size
  have hcell : ∀ i, i < R → w'.cell? ⟨gr, i, none⟩ = some (V i) := fun i hi => by rw [World.cell?_of_block (w := w) (a := ⟨gr, i, none⟩) hgr]; exact h.cell i hi
  have hothers : ∀ i, i < R → i ≠ r → ∀ c, (V i).ownBlock = some c → c ≠ b ∧ c ≠ gr ∧ (V r).ownBlock ≠ some c := fun i hi hir c hc => by
    have hVi := (World.ownsRow.lt (h.rows i hi) c hc).2
    refine ⟨fun e => ?_, (h.apart i hi c hc).2, h.each i r hi hr hir c hc⟩
    subst e
    rcases hb2 with hb2 | hb2
    · exact h.each i r hi hr hir c hc hb2
    · omega
  refine ⟨Nat.le_trans h.hB (Nat.le_trans hg.size hs.size), h.bt, h.br, h.tr, ?_, Nat.lt_of_lt_of_le hltr hs.size, Nat.lt_of_lt_of_le h.tlt (Nat.le_trans hg.size hs.size), fun i hi => ?_, fun i hi => ?_, fun i hi => ?_, fun i hi c hc => ?_, fun i j hi hj hij c hc => ?_⟩
  · exact (h.own.kept hg fun c hc e => by
      have hc' : gt = c := Option.some.inj hc
      subst hc'
      exact (h.apart r hr gt e).1 rfl).kept hs fun c hc e => by
        have hc' : gt = c := Option.some.inj hc
        have he' : gr = c := Option.some.inj e
        exact h.tr (by rw [hc', he'])
  · by_cases e : i = r
    · subst e
      rw [if_pos rfl, World.cell?_setCell_same _ _ _ (hcell i hi)]
    · rw [if_neg e, World.cell?_setCell_other _ _ _ _ (by intro h'; apply e; cases h'; rfl)]
      exact hcell i hi
  · rw [World.frozen?_setCell, World.frozen?_of_block (w := w) (a := ⟨gr, i, none⟩) hgr]; exact h.frz i hi
  · by_cases e : i = r
    · subst e
      rw [if_pos rfl, if_pos rfl]
      refine ho.kept hs fun c hc e => ?_
      rw [hb1] at hc
      have hc' : b = c := Option.some.inj hc
      have he' : gr = c := Option.some.inj e
      exact hbt.2 (by rw [hc', he'])
    · rw [if_neg e, if_neg e]
      refine ((h.rows i hi).kept hg fun c hc => (hothers i hi e c hc).2.2).kept hs fun c hc e' => ?_
      exact (hothers i hi e c hc).2.1 (Option.some.inj e').symm
  · by_cases e : i = r
    · subst e
      rw [if_pos rfl, hb1] at hc
      have hc' : b = c := Option.some.inj hc
      subst hc'
      exact hbt
    · rw [if_neg e] at hc
      exact h.apart i hi c hc
  · by_cases e : i = r
    · subst e
      rw [if_pos rfl, hb1] at hc
      have hc' : b = c := Option.some.inj hc
      subst hc'
      rw [if_neg (fun e => hij e.symm)]
      exact fun hV => (hothers j hj (fun e => hij e.symm) b hV).1 rfl
    · rw [if_neg e] at hc
      by_cases e' : j = r
      · subst e'
        rw [if_pos rfl, hb1]
        intro hcb
        exact (hothers i hi e c hc).1 (Option.some.inj hcb).symm
      · rw [if_neg e']
        exact h.each i j hi hj hij c hc
end Go.Proofs.YtiffkbmcikiioaaGreat

/- A region that draws its order, whose last operation may write what others read: an operation that yields its value wherever S holds may be taken first; S is to be shown behind each operation but that last one. -/
namespace Go.Proofs.YtiffkbmcikiioaaGreat
set_option maxRecDepth 100000

section
variable {P : Program} {ops : Array Oper} {Q : Exit → Act → World → Prop} {md : Region.Mode} {S : World → Prop} {s : Nat}

/-- Whatever order comes, S holds behind each operation but number s. -/
def wpAnyS (P : Program) (md : Region.Mode) (ops : Array Oper) (Q : Exit → Act → World → Prop) (S : World → Prop) (s : Nat) : Nat → Array Bool → Act → World → Prop
  | 0, listed, a, w => Region.ready md ops listed = [] ∧ Q .normal a w
  | fuel + 1, listed, a, w => (Region.ready md ops listed = [] → Q .normal a w) ∧
    ∀ i ∈ Region.ready md ops listed, wpOp P ops Q i (fun a' w' => (i ≠ s → S w') ∧ wpAnyS P md ops Q S s fuel (listed.setIfInBounds i true) a' w') a w

theorem wpAny_of_S : ∀ (fuel : Nat) (listed : Array Bool) (a : Act) (w : World), wpAnyS P md ops Q S s fuel listed a w → wpAny P md ops Q fuel listed a w
  | 0, _, _, _, h => h
  | fuel + 1, _, _, _, h => ⟨h.1, fun i hi => wpOp_mono (fun _ _ hk => wpAny_of_S fuel _ _ _ hk.2) (h.2 i hi)⟩

theorem wpAnyS_first {i : Nat} {oi : Oper} {v : Value} (hi : ops[i]? = some oi) (hsel : ∀ (j : Nat) (o : Oper) cs b, ops[j]? = some o → o.op ≠ .select cs b) (hQ : ∀ c a w, Q (.panic c) (a.put oi.dst v) w → Q (.panic c) a w)
    (hwait : ∃ os, ops[s]? = some os ∧ ∃ e ∈ os.after, Region.binds md e = true ∧ e.on = i) (fuel : Nat) :
    ∀ (listed : Array Bool) (a : Act) (w : World),
      (∀ j oj, ops[j]? = some oj → j ≠ i → listed.getD j true = false → (∀ e ∈ oj.after, Region.binds md e = true → e.on ≠ i) → oi.apart ops oj = true) →
      i ∈ Region.ready md ops listed → YieldsIf P ops S oi v a → S w → wpAnyS P md ops Q S s fuel (listed.setIfInBounds i true) (a.put oi.dst v) w → wpAnyS P md ops Q S s (fuel + 1) listed a w := by
  induction fuel with
  | zero =>
    intro listed a w _ hr hy hS H
    refine ⟨(fun e => by rw [e] at hr; cases hr), fun j hj => ?_⟩
    by_cases e : j = i
    · subst e
      exact hy.wpOp hi hS ⟨fun _ => hS, H⟩
    · have := ready_mono hj e
      rw [H.1] at this
      cases this
  | succ fuel ih =>
    intro listed a w hfree hr hy hS H
    refine ⟨(fun e => by rw [e] at hr; cases hr), fun j hj => ?_⟩
    by_cases e : j = i
    · subst e
      exact hy.wpOp hi hS ⟨fun _ => hS, H⟩
    · obtain ⟨hun, oj, hoj, hall⟩ := mem_ready.1 hj
      have hi0 := (mem_ready.1 hr).1
      have hnot : ∀ x ∈ oj.after, Region.binds md x = true → x.on ≠ i := fun x hx hb hon => by
        have h1 := hall x hx hb
        rw [hon] at h1
        rcases Nat.lt_or_ge i listed.size with hlt | hge
        · simp [hlt] at hi0 h1
          rw [hi0] at h1
          cases h1
        · simp [Array.getElem?_eq_none hge] at h1
      have hjs : j ≠ s := fun e' => by
        obtain ⟨os, hos, x, hx, hb, hon⟩ := hwait
        subst e'
        rw [hoj] at hos
        cases hos
        exact hnot x hx hb hon
      have h2 := wpOp_putIf hoj (hfree j oj hoj e hun hnot) (fun cs b => hsel i oi cs b hi) (fun cs b => hsel j oj cs b hoj) hQ hy (H.2 j (ready_mono hj e))
      refine wpOp_mono (fun a' w' hk => ⟨fun _ => hk.2.1 hjs, ih (listed.setIfInBounds j true) a' w' (fun k ok hk' hki hun' hno => hfree k ok hk' hki ?_ hno) (ready_mono hr (Ne.symm e)) hk.1 (hk.2.1 hjs) ?_⟩) h2
      · by_cases hjk : j = k
        · subst hjk; exact hun
        · rw [getD_set_ne true hjk] at hun'; exact hun'
      · rw [Array.setIfInBounds_comm _ _ e]
        exact hk.2.2

/-- Number i is taken first. -/
theorem wpAnyS_take {i : Nat} {oi : Oper} (v : Value) {fuel : Nat} {listed : Array Bool} {a : Act} {w : World} (hi : ops[i]? = some oi) (hs : Region.noSelect ops = true) (hf : Region.free md ops listed i = true)
    (hr : (Region.ready md ops listed).contains i = true) (hwait : ((ops[s]?).any fun o => o.after.any fun e => Region.binds md e && e.on == i) = true)
    (hQ : ∀ c a w, Q (.panic c) (a.put oi.dst v) w → Q (.panic c) a w) (hy : YieldsIf P ops S oi v a) (hS : S w)
    (h : wpAnyS P md ops Q S s fuel (listed.setIfInBounds i true) (a.put oi.dst v) w) : wpAnyS P md ops Q S s (fuel + 1) listed a w := by
  refine wpAnyS_first hi (Region.noSelect_spec hs) hQ ?_ fuel listed a w (Region.free_spec hi hf) (by simpa using hr) hy hS h
  obtain ⟨os, hos, h1⟩ := (Option.any_eq_true _ _).1 hwait
  obtain ⟨e, he, h2⟩ := Array.any_eq_true'.1 h1
  simp only [Bool.and_eq_true, beq_iff_eq] at h2
  exact ⟨os, hos, e, he, h2.1, h2.2⟩
/-- The one that may come up is carried out. -/
theorem wpAnyS_step {i : Nat} {o : Oper} {fuel : Nat} {listed : Array Bool} {a : Act} {w : World} (hr : Region.ready md ops listed = [i]) (ho : ops[i]? = some o) (hg : o.guard = none)
    (h : ∀ K : Act → World → Prop, (∀ a' w', (i ≠ s → S w') → wpAnyS P md ops Q S s fuel (listed.setIfInBounds i true) a' w' → K a' w') → o.wp P a w K Q) : wpAnyS P md ops Q S s (fuel + 1) listed a w := by
  refine ⟨(fun e => by rw [hr] at e; cases e), fun j hj => ?_⟩
  rw [hr] at hj
  obtain rfl := List.mem_singleton.1 hj
  unfold wpOp
  simp only [ho]
  rw [if_pos (by simp [Region.wanted, hg])]
  exact .inl (h _ fun a' w' hS hw => ⟨hS, hw⟩)
theorem wpAnyS_done {listed : Array Bool} {a : Act} {w : World} (hr : Region.ready md ops listed = []) (h : Q .normal a w) : ∀ fuel, wpAnyS P md ops Q S s fuel listed a w
  | 0 => ⟨hr, h⟩
  | _ + 1 => ⟨fun _ => h, by rw [hr]; simp⟩
theorem wp_region_S {id : Nat} {a : Act} {w : World} (s : Nat) (S : World → Prop) (hm : P.follows .mixedOrders = true) (h : wpAnyS P .any ops Q S s ops.size (Array.replicate ops.size false) a w.drew) : (Code.region id ops true).wp P Q a w :=
  wp_region_any hm (wpAny_of_S _ _ _ _ h)
end
end Go.Proofs.YtiffkbmcikiioaaGreat

/- code.Encode: a block's columns' texts. -/
namespace Go.Proofs.YtiffkbmcikiioaaGreat
set_option maxRecDepth 100000
open Go.RowKit M

theorem info_txts : ∃ i, Tryz.prog.info? 60 = some i ∧ i.zero = some (.slice none 0 0) ∧ i.size = 1 ∧ i.bytes = 24 := info_parts (by kernel_rfl)
theorem make_texts (w : World) (B n : Nat) (hB : B ≤ w.heap.size) (hn : n ≤ 100000) :
    ∃ w', (Instr.makeSlice 60 (.int .i64 (n : Int)) (.int .i64 (n : Int))).run Tryz.prog w = .ok (.slice (some ⟨w.heap.size, 0, none⟩) n n) w' ∧ Own w' B (.slice (some ⟨w.heap.size, 0, none⟩) n n) (List.replicate n ⟨#[]⟩) ∧ Below w.heap.size w w' ∧ w.heap.size < w'.heap.size := by
  obtain ⟨i, hi, hz, hs, hb⟩ := info_str
  obtain ⟨w', h1, h2, h3⟩ := run_make_full (P := Tryz.prog) w B 60 9 i (.string ⟨#[]⟩) 1 Tryz.underlying60 hi hz hs .i64 .i64 n (by rw [hb]; omega) (by unfold maxLen; omega) hB
  have h4 : (madeCells (Value.string ⟨#[]⟩).cells (n * 1)).toList = (List.replicate n (⟨#[]⟩ : ByteArray)).map Value.string := by
    rw [Nat.mul_one, List.map_replicate]; exact toList_madeCells_one _ _
  rw [h4] at h2
  refine ⟨w', h1, by rw [Own, List.length_replicate]; exact h2, ⟨h3.os, h3.tape, h3.output, h3.size, fun k hk => h3.block k hk (by simp)⟩, (World.ownsRow.lt h2 _ rfl).2⟩
theorem make_rows (w : World) (R : Nat) (hR : R ≤ 100000) :
    ∃ w', (Instr.makeSlice 57 (.int .i64 (R : Int)) (.int .i64 (R : Int))).run Tryz.prog w = .ok (.slice (some ⟨w.heap.size, 0, none⟩) R R) w' ∧ (∀ r, r < R → w'.cell? ⟨w.heap.size, r, none⟩ = some (.slice none 0 0)) ∧ (∀ r, r < R → w'.frozen? ⟨w.heap.size, r, none⟩ = false) ∧ Below w.heap.size w w' ∧ w.heap.size < w'.heap.size := by
  obtain ⟨i, hi, hz, hs, hb⟩ := info_txts
  obtain ⟨w', h1, h2, h3⟩ := run_make_full (P := Tryz.prog) w w.heap.size 57 60 i (.slice none 0 0) 1 Tryz.underlying57 hi hz hs .i64 .i64 R (by rw [hb]; omega) (by unfold maxLen; omega) (Nat.le_refl _)
  have h4 : (madeCells (Value.slice none 0 0).cells (R * 1)).toList = List.replicate R (.slice none 0 0) := by
    rw [Nat.mul_one]; exact toList_madeCells_one _ _
  rw [h4] at h2
  refine ⟨w', h1, fun r hr => ?_, fun r _ => h2.frozenAt r, ⟨h3.os, h3.tape, h3.output, h3.size, fun k hk => h3.block k hk (by simp)⟩, (World.ownsRow.lt h2 _ rfl).2⟩
  rw [h2.cellAt r (by omega), List.getElem?_replicate, if_pos hr]
theorem Enc.start {w w1 w2 w3 : World} {B n R : Nat} (hB : B ≤ w.heap.size) (ho : Own w1 B (.slice (some ⟨w.heap.size, 0, none⟩) n n) (List.replicate n ⟨#[]⟩)) (h1 : w.heap.size < w1.heap.size) (b2 : Below w1.heap.size w1 w2)
    (hc : ∀ r, r < R → w3.cell? ⟨w2.heap.size, r, none⟩ = some (.slice none 0 0)) (hf : ∀ r, r < R → w3.frozen? ⟨w2.heap.size, r, none⟩ = false) (b3 : Below w2.heap.size w2 w3) (h3 : w2.heap.size < w3.heap.size) :
    Enc w3 B w.heap.size w2.heap.size n R (List.replicate n ⟨#[]⟩) (fun _ => .slice none 0 0) (fun _ => []) := by
  have := b2.size
  have := b3.size
  exact ⟨by omega, hB, by omega, by omega, (ho.below b2).below b3, h3, by omega, hc, hf, fun r hr => World.ownsRow_nil _ _ _ _, fun r hr b hb => by simp [Value.ownBlock] at hb, fun r r' _ _ _ b hb => by simp [Value.ownBlock] at hb⟩

/-- Behind the first j columns: the data columns' texts are laid. -/
def Laid1 (L : List C) (f : Nat → ByteArray) (n j : Nat) (X : List ByteArray) : Prop := X.length = n ∧ ∀ i, i < n → X[i]? = some (if parAt L i = false ∧ i < j then f (dct L i) else ⟨#[]⟩)
theorem laid1_zero (L : List C) (f : Nat → ByteArray) (n : Nat) : Laid1 L f n 0 (List.replicate n ⟨#[]⟩) := ⟨by simp, fun i hi => by rw [List.getElem?_replicate, if_pos hi, if_neg (by omega)]⟩
theorem laid1_par {L : List C} {f : Nat → ByteArray} {n j : Nat} {X : List ByteArray} (h : Laid1 L f n j X) (hp : parAt L j = true) : Laid1 L f n (j + 1) X := by
  refine ⟨h.1, fun i hi => ?_⟩
  rw [h.2 i hi]
  congr 1
  by_cases hq : parAt L i = false
  · by_cases hij : i < j
    · rw [if_pos ⟨hq, hij⟩, if_pos ⟨hq, by omega⟩]
    · rw [if_neg (fun h => hij h.2), if_neg]
      rintro ⟨_, h'⟩
      obtain rfl : i = j := by omega
      rw [hp] at hq
      cases hq
  · rw [if_neg (fun h => hq h.1), if_neg (fun h => hq h.1)]
theorem laid1_data {L : List C} {f : Nat → ByteArray} {n j : Nat} {X : List ByteArray} (h : Laid1 L f n j X) (hp : parAt L j = false) (hj : j < n) : Laid1 L f n (j + 1) (X.set j (f (dct L j))) := by
  refine ⟨by simpa using h.1, fun i hi => ?_⟩
  by_cases e : j = i
  · subst e
    rw [List.getElem?_set_self (by rw [h.1]; exact hj), if_pos ⟨hp, by omega⟩]
  · rw [List.getElem?_set_ne e, h.2 i hi]
    congr 1
    by_cases hq : parAt L i = false ∧ i < j
    · rw [if_pos hq, if_pos ⟨hq.1, by omega⟩]
    · rw [if_neg hq, if_neg (fun h => hq ⟨h.1, by omega⟩)]
/-- And of the first j columns the parities. -/
def Laid2 (L : List C) (f : Nat → ByteArray) (n j : Nat) (X : List ByteArray) : Prop := X.length = n ∧ ∀ i, i < n → X[i]? = some (if parAt L i = false ∨ i < j then encAt L f i else ⟨#[]⟩)
theorem laid2_zero {L : List C} {f : Nat → ByteArray} {n : Nat} {X : List ByteArray} (h : Laid1 L f n n X) : Laid2 L f n 0 X := by
  refine ⟨h.1, fun i hi => ?_⟩
  rw [h.2 i hi]
  congr 1
  cases hp : parAt L i with
  | false => rw [if_pos ⟨rfl, hi⟩, if_pos (.inl rfl), encAt, hp]; rfl
  | true => rw [if_neg (by simp), if_neg (by simp)]
theorem laid2_data {L : List C} {f : Nat → ByteArray} {n j : Nat} {X : List ByteArray} (h : Laid2 L f n j X) (hp : parAt L j = false) : Laid2 L f n (j + 1) X := by
  refine ⟨h.1, fun i hi => ?_⟩
  rw [h.2 i hi]
  congr 1
  by_cases hq : parAt L i = false ∨ i < j
  · rw [if_pos hq, if_pos (hq.imp id fun h => by omega)]
  · rw [if_neg hq, if_neg]
    rintro (h' | h')
    · exact hq (.inl h')
    · by_cases e : i = j
      · subst e; exact hq (.inl hp)
      · exact hq (.inr (by omega))
theorem laid2_par {L : List C} {f : Nat → ByteArray} {n j : Nat} {X : List ByteArray} (h : Laid2 L f n j X) (hj : j < n) : Laid2 L f n (j + 1) (X.set j (encAt L f j)) := by
  refine ⟨by simpa using h.1, fun i hi => ?_⟩
  by_cases e : j = i
  · subst e
    rw [List.getElem?_set_self (by rw [h.1]; exact hj), if_pos (.inr (by omega))]
  · rw [List.getElem?_set_ne e, h.2 i hi]
    congr 1
    by_cases hq : parAt L i = false ∨ i < j
    · rw [if_pos hq, if_pos (hq.imp id fun h => by omega)]
    · rw [if_neg hq, if_neg (fun h => hq (h.imp id fun h => by omega))]
theorem laid2_all {L : List C} {f : Nat → ByteArray} {n : Nat} {X : List ByteArray} (h : Laid2 L f n n X) (hn : L.length = n) : X = encL L f := by
  apply List.ext_getElem?
  intro i
  by_cases hi : i < n
  · rw [h.2 i hi, if_pos (.inr hi), List.getElem?_eq_getElem (by rw [encL_len, hn]; exact hi), encL_get]
  · rw [List.getElem?_eq_none (by rw [h.1]; omega), List.getElem?_eq_none (by rw [encL_len, hn]; omega)]
theorem rowD_push (L : List C) (f : Nat → ByteArray) (j rn : Nat) (hp : parAt L j = false) (hr : rowAt L j = (rn : Int)) :
    (fun i : Nat => if i = rn then rowD L f (rn : Int) j ++ [f (dct L j)] else rowD L f (i : Int) j) = fun i : Nat => rowD L f (i : Int) (j + 1) := by
  funext i
  by_cases e : i = rn
  · subst e; rw [if_pos rfl, rowD_yes hp hr]
  · rw [if_neg e, rowD_no (.inr (by rw [hr]; omega))]
theorem rowD_skip (L : List C) (f : Nat → ByteArray) (j : Nat) (hp : parAt L j = true) : (fun i : Nat => rowD L f (i : Int) j) = fun i : Nat => rowD L f (i : Int) (j + 1) := by
  funext i
  rw [rowD_no (.inl hp)]
end Go.Proofs.YtiffkbmcikiioaaGreat
