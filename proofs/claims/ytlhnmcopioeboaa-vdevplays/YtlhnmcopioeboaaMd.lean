/-
  A region that draws its order, whose last operation may write what others read: an operation that yields its value wherever S holds may be taken first; S is to be shown behind each operation but that last one.
  code.Encode: a block's columns' texts.
  code.Encode, walked.
  code.Encode of any block.
  vdev.encoded, spared.
  vdev.Write: what becomes of the devices; the walk.
  code.fitting, code.Fits: columns that were read.
  A range over a function whose iterator keeps its place in cells of its own: a law for the statement, and the contract that such an iterator is to meet. No program is named here.
  The law for a range over a function once more: what is handed out is several values.
  Numbers sorted, each once.
  (Devs of columns is not called here.)
  code.without: the data columns, a device's made again.
  code.ofMirror, code.ofParity, code.Tries: what is answered is a function that hands out tries.
  code.ofMirror: the function that it answers hands out the tries of a Mirror's columns.
-/
import Derived.Test.YtlhnmcopioeboaaMc
import Derived.Test.YtlhnmcopioeboaaChecked
import Derived.OrdersHeld
import Derived.Deep.RegionHeld
import Derived.RangeFuncCalls
import Derived.RangeFuncLeaves
import Derived.RangeFuncBound
import Derived.Below
import Derived.Lib.SlicesCompact
import Derived.Shelf.Abstract
import Derived.Shelf.RegionOpen
import Derived.OwnWalkIn
import Derived.TacticsInMore
import Derived.LoopNIn
import Derived.LoopIn

/- A region that draws its order, whose last operation may write what others read: an operation that yields its value wherever S holds may be taken first; S is to be shown behind each operation but that last one. -/
namespace Go.Proofs.Ytlhnmcopioeboaa
set_option maxRecDepth 100000

section
variable {P : Program} {ops : Array Oper} {Q : Exit → Act → World → Prop} {md : Region.Mode} {S : World → Prop} {s : Nat}

/-- Whatever order comes, S holds behind each operation but number s. -/
def wpAnyS (P : Program) (md : Region.Mode) (ops : Array Oper) (Q : Exit → Act → World → Prop) (S : World → Prop) (s : Nat) : Nat → Array Bool → Act → World → Prop
  | 0, listed, a, w => Region.ready md ops listed = [] ∧ Q .normal a w
  | fuel + 1, listed, a, w => (Region.ready md ops listed = [] → Q .normal a w) ∧
    ∀ i ∈ Region.ready md ops listed, wpOp P ops Q i (fun a' w' => (i ≠ s → S w') ∧ wpAnyS P md ops Q S s fuel (listed.setIfInBounds i true) a' w') a w

theorem wpAny_of_S : ∀ (fuel : Nat) (listed : Array Bool) (a : Act) (w : World), wpAnyS P md ops Q S s fuel listed a w → wpAny P md ops Q fuel listed a w
  | 0, _, _, _, h => h
  | fuel + 1, _, _, _, h => ⟨h.1, fun i hi => wpOp_mono (fun _ _ hk => wpAny_of_S fuel _ _ _ hk.2) (h.2 i hi)⟩

theorem wpAnyS_first {i : Nat} {oi : Oper} {v : Value} (hi : ops[i]? = some oi) (hsel : ∀ (j : Nat) (o : Oper) cs b, ops[j]? = some o → o.op ≠ .select cs b) (hQ : ∀ c a w, Q (.panic c) (a.put oi.dst v) w → Q (.panic c) a w)
    (hwait : ∃ os, ops[s]? = some os ∧ ∃ e ∈ os.after, Region.binds md e = true ∧ e.on = i) (fuel : Nat) :
    ∀ (listed : Array Bool) (a : Act) (w : World),
      (∀ j oj, ops[j]? = some oj → j ≠ i → listed.getD j true = false → (∀ e ∈ oj.after, Region.binds md e = true → e.on ≠ i) → oi.apart ops oj = true) →
      i ∈ Region.ready md ops listed → YieldsIf P ops S oi v a → S w → wpAnyS P md ops Q S s fuel (listed.setIfInBounds i true) (a.put oi.dst v) w → wpAnyS P md ops Q S s (fuel + 1) listed a w := by
  induction fuel with
  | zero =>
    intro listed a w _ hr hy hS H
    refine ⟨(fun e => by rw [e] at hr; cases hr), fun j hj => ?_⟩
    by_cases e : j = i
    · subst e
      exact hy.wpOp hi hS ⟨fun _ => hS, H⟩
    · have := ready_mono hj e
      rw [H.1] at this
      cases this
  | succ fuel ih =>
    intro listed a w hfree hr hy hS H
    refine ⟨(fun e => by rw [e] at hr; cases hr), fun j hj => ?_⟩
    by_cases e : j = i
    · subst e
      exact hy.wpOp hi hS ⟨fun _ => hS, H⟩
    · obtain ⟨hun, oj, hoj, hall⟩ := mem_ready.1 hj
      have hi0 := (mem_ready.1 hr).1
      have hnot : ∀ x ∈ oj.after, Region.binds md x = true → x.on ≠ i := fun x hx hb hon => by
        have h1 := hall x hx hb
        rw [hon] at h1
        rcases Nat.lt_or_ge i listed.size with hlt | hge
        · simp [hlt] at hi0 h1
          rw [hi0] at h1
          cases h1
        · simp [Array.getElem?_eq_none hge] at h1
      have hjs : j ≠ s := fun e' => by
        obtain ⟨os, hos, x, hx, hb, hon⟩ := hwait
        subst e'
        rw [hoj] at hos
        cases hos
        exact hnot x hx hb hon
      have h2 := wpOp_putIf hoj (hfree j oj hoj e hun hnot) (fun cs b => hsel i oi cs b hi) (fun cs b => hsel j oj cs b hoj) hQ hy (H.2 j (ready_mono hj e))
      refine wpOp_mono (fun a' w' hk => ⟨fun _ => hk.2.1 hjs, ih (listed.setIfInBounds j true) a' w' (fun k ok hk' hki hun' hno => hfree k ok hk' hki ?_ hno) (ready_mono hr (Ne.symm e)) hk.1 (hk.2.1 hjs) ?_⟩) h2
      · by_cases hjk : j = k
        · subst hjk; exact hun
        · rw [getD_set_ne true hjk] at hun'; exact hun'
      · rw [Array.setIfInBounds_comm _ _ e]
        exact hk.2.2

/-- Number i is taken first. -/
theorem wpAnyS_take {i : Nat} {oi : Oper} (v : Value) {fuel : Nat} {listed : Array Bool} {a : Act} {w : World} (hi : ops[i]? = some oi) (hs : Region.noSelect ops = true) (hf : Region.free md ops listed i = true)
    (hr : (Region.ready md ops listed).contains i = true) (hwait : ((ops[s]?).any fun o => o.after.any fun e => Region.binds md e && e.on == i) = true)
    (hQ : ∀ c a w, Q (.panic c) (a.put oi.dst v) w → Q (.panic c) a w) (hy : YieldsIf P ops S oi v a) (hS : S w)
    (h : wpAnyS P md ops Q S s fuel (listed.setIfInBounds i true) (a.put oi.dst v) w) : wpAnyS P md ops Q S s (fuel + 1) listed a w := by
  refine wpAnyS_first hi (Region.noSelect_spec hs) hQ ?_ fuel listed a w (Region.free_spec hi hf) (by simpa using hr) hy hS h
  obtain ⟨os, hos, h1⟩ := (Option.any_eq_true _ _).1 hwait
  obtain ⟨e, he, h2⟩ := Array.any_eq_true'.1 h1
  simp only [Bool.and_eq_true, beq_iff_eq] at h2
  exact ⟨os, hos, e, he, h2.1, h2.2⟩
/-- The one that may come up is carried out. -/
theorem wpAnyS_step {i : Nat} {o : Oper} {fuel : Nat} {listed : Array Bool} {a : Act} {w : World} (hr : Region.ready md ops listed = [i]) (ho : ops[i]? = some o) (hg : o.guard = none)
    (h : ∀ K : Act → World → Prop, (∀ a' w', (i ≠ s → S w') → wpAnyS P md ops Q S s fuel (listed.setIfInBounds i true) a' w' → K a' w') → o.wp P a w K Q) : wpAnyS P md ops Q S s (fuel + 1) listed a w := by
  refine ⟨(fun e => by rw [hr] at e; cases e), fun j hj => ?_⟩
  rw [hr] at hj
  obtain rfl := List.mem_singleton.1 hj
  unfold wpOp
  simp only [ho]
  rw [if_pos (by simp [Region.wanted, hg])]
  exact .inl (h _ fun a' w' hS hw => ⟨hS, hw⟩)
theorem wpAnyS_done {listed : Array Bool} {a : Act} {w : World} (hr : Region.ready md ops listed = []) (h : Q .normal a w) : ∀ fuel, wpAnyS P md ops Q S s fuel listed a w
  | 0 => ⟨hr, h⟩
  | _ + 1 => ⟨fun _ => h, by rw [hr]; simp⟩
theorem wp_region_S {id : Nat} {a : Act} {w : World} (s : Nat) (S : World → Prop) (hm : P.follows .mixedOrders = true) (h : wpAnyS P .any ops Q S s ops.size (Array.replicate ops.size false) a w.drew) : (Code.region id ops true).wp P Q a w :=
  wp_region_any hm (wpAny_of_S _ _ _ _ h)
end
end Go.Proofs.Ytlhnmcopioeboaa

/- code.Encode: a block's columns' texts. -/
namespace Go.Proofs.Ytlhnmcopioeboaa
set_option maxRecDepth 100000
open Go.RowKit M

theorem info_txts : ∃ i, Try.prog.info? 39 = some i ∧ i.zero = some (.slice none 0 0) ∧ i.size = 1 ∧ i.bytes = 24 := info_parts (by kernel_rfl)
theorem make_texts (w : World) (B n : Nat) (hB : B ≤ w.heap.size) (hn : n ≤ 100000) :
    ∃ w', (Instr.makeSlice 39 (.int .i64 (n : Int)) (.int .i64 (n : Int))).run Try.prog w = .ok (.slice (some ⟨w.heap.size, 0, none⟩) n n) w' ∧ Own w' B (.slice (some ⟨w.heap.size, 0, none⟩) n n) (List.replicate n ⟨#[]⟩) ∧ Below w.heap.size w w' ∧ w.heap.size < w'.heap.size := by
  obtain ⟨i, hi, hz, hs, hb⟩ := info_str
  obtain ⟨w', h1, h2, h3⟩ := run_make_full (P := Try.prog) w B 39 9 i (.string ⟨#[]⟩) 1 Try.underlying39 hi hz hs .i64 .i64 n (by rw [hb]; omega) (by unfold maxLen; omega) hB
  have h4 : (madeCells (Value.string ⟨#[]⟩).cells (n * 1)).toList = (List.replicate n (⟨#[]⟩ : ByteArray)).map Value.string := by
    rw [Nat.mul_one, List.map_replicate]; exact toList_madeCells_one _ _
  rw [h4] at h2
  refine ⟨w', h1, by rw [Own, List.length_replicate]; exact h2, ⟨h3.os, h3.tape, h3.output, h3.size, fun k hk => h3.block k hk (by simp)⟩, (World.ownsRow.lt h2 _ rfl).2⟩
theorem make_rows (w : World) (R : Nat) (hR : R ≤ 100000) :
    ∃ w', (Instr.makeSlice 78 (.int .i64 (R : Int)) (.int .i64 (R : Int))).run Try.prog w = .ok (.slice (some ⟨w.heap.size, 0, none⟩) R R) w' ∧ (∀ r, r < R → w'.cell? ⟨w.heap.size, r, none⟩ = some (.slice none 0 0)) ∧ (∀ r, r < R → w'.frozen? ⟨w.heap.size, r, none⟩ = false) ∧ Below w.heap.size w w' ∧ w.heap.size < w'.heap.size := by
  obtain ⟨i, hi, hz, hs, hb⟩ := info_txts
  obtain ⟨w', h1, h2, h3⟩ := run_make_full (P := Try.prog) w w.heap.size 78 39 i (.slice none 0 0) 1 Try.underlying78 hi hz hs .i64 .i64 R (by rw [hb]; omega) (by unfold maxLen; omega) (Nat.le_refl _)
  have h4 : (madeCells (Value.slice none 0 0).cells (R * 1)).toList = List.replicate R (.slice none 0 0) := by
    rw [Nat.mul_one]; exact toList_madeCells_one _ _
  rw [h4] at h2
  refine ⟨w', h1, fun r hr => ?_, fun r _ => h2.frozenAt r, ⟨h3.os, h3.tape, h3.output, h3.size, fun k hk => h3.block k hk (by simp)⟩, (World.ownsRow.lt h2 _ rfl).2⟩
  rw [h2.cellAt r (by omega), List.getElem?_replicate, if_pos hr]
theorem Enc.start {w w1 w2 w3 : World} {B n R : Nat} (hB : B ≤ w.heap.size) (ho : Own w1 B (.slice (some ⟨w.heap.size, 0, none⟩) n n) (List.replicate n ⟨#[]⟩)) (h1 : w.heap.size < w1.heap.size) (b2 : Below w1.heap.size w1 w2)
    (hc : ∀ r, r < R → w3.cell? ⟨w2.heap.size, r, none⟩ = some (.slice none 0 0)) (hf : ∀ r, r < R → w3.frozen? ⟨w2.heap.size, r, none⟩ = false) (b3 : Below w2.heap.size w2 w3) (h3 : w2.heap.size < w3.heap.size) :
    Enc w3 B w.heap.size w2.heap.size n R (List.replicate n ⟨#[]⟩) (fun _ => .slice none 0 0) (fun _ => []) := by
  have := b2.size
  have := b3.size
  exact ⟨by omega, hB, by omega, by omega, (ho.below b2).below b3, h3, by omega, hc, hf, fun r hr => World.ownsRow_nil _ _ _ _, fun r hr b hb => by simp [Value.ownBlock] at hb, fun r r' _ _ _ b hb => by simp [Value.ownBlock] at hb⟩

/-- Behind the first j columns: the data columns' texts are laid. -/
def Laid1 (L : List C) (f : Nat → ByteArray) (n j : Nat) (X : List ByteArray) : Prop := X.length = n ∧ ∀ i, i < n → X[i]? = some (if parAt L i = false ∧ i < j then f (dct L i) else ⟨#[]⟩)
theorem laid1_zero (L : List C) (f : Nat → ByteArray) (n : Nat) : Laid1 L f n 0 (List.replicate n ⟨#[]⟩) := ⟨by simp, fun i hi => by rw [List.getElem?_replicate, if_pos hi, if_neg (by omega)]⟩
theorem laid1_par {L : List C} {f : Nat → ByteArray} {n j : Nat} {X : List ByteArray} (h : Laid1 L f n j X) (hp : parAt L j = true) : Laid1 L f n (j + 1) X := by
  refine ⟨h.1, fun i hi => ?_⟩
  rw [h.2 i hi]
  congr 1
  by_cases hq : parAt L i = false
  · by_cases hij : i < j
    · rw [if_pos ⟨hq, hij⟩, if_pos ⟨hq, by omega⟩]
    · rw [if_neg (fun h => hij h.2), if_neg]
      rintro ⟨_, h'⟩
      obtain rfl : i = j := by omega
      rw [hp] at hq
      cases hq
  · rw [if_neg (fun h => hq h.1), if_neg (fun h => hq h.1)]
theorem laid1_data {L : List C} {f : Nat → ByteArray} {n j : Nat} {X : List ByteArray} (h : Laid1 L f n j X) (hp : parAt L j = false) (hj : j < n) : Laid1 L f n (j + 1) (X.set j (f (dct L j))) := by
  refine ⟨by simpa using h.1, fun i hi => ?_⟩
  by_cases e : j = i
  · subst e
    rw [List.getElem?_set_self (by rw [h.1]; exact hj), if_pos ⟨hp, by omega⟩]
  · rw [List.getElem?_set_ne e, h.2 i hi]
    congr 1
    by_cases hq : parAt L i = false ∧ i < j
    · rw [if_pos hq, if_pos ⟨hq.1, by omega⟩]
    · rw [if_neg hq, if_neg (fun h => hq ⟨h.1, by omega⟩)]
/-- And of the first j columns the parities. -/
def Laid2 (L : List C) (f : Nat → ByteArray) (n j : Nat) (X : List ByteArray) : Prop := X.length = n ∧ ∀ i, i < n → X[i]? = some (if parAt L i = false ∨ i < j then encAt L f i else ⟨#[]⟩)
theorem laid2_zero {L : List C} {f : Nat → ByteArray} {n : Nat} {X : List ByteArray} (h : Laid1 L f n n X) : Laid2 L f n 0 X := by
  refine ⟨h.1, fun i hi => ?_⟩
  rw [h.2 i hi]
  congr 1
  cases hp : parAt L i with
  | false => rw [if_pos ⟨rfl, hi⟩, if_pos (.inl rfl), encAt, hp]; rfl
  | true => rw [if_neg (by simp), if_neg (by simp)]
theorem laid2_data {L : List C} {f : Nat → ByteArray} {n j : Nat} {X : List ByteArray} (h : Laid2 L f n j X) (hp : parAt L j = false) : Laid2 L f n (j + 1) X := by
  refine ⟨h.1, fun i hi => ?_⟩
  rw [h.2 i hi]
  congr 1
  by_cases hq : parAt L i = false ∨ i < j
  · rw [if_pos hq, if_pos (hq.imp id fun h => by omega)]
  · rw [if_neg hq, if_neg]
    rintro (h' | h')
    · exact hq (.inl h')
    · by_cases e : i = j
      · subst e; exact hq (.inl hp)
      · exact hq (.inr (by omega))
theorem laid2_par {L : List C} {f : Nat → ByteArray} {n j : Nat} {X : List ByteArray} (h : Laid2 L f n j X) (hj : j < n) : Laid2 L f n (j + 1) (X.set j (encAt L f j)) := by
  refine ⟨by simpa using h.1, fun i hi => ?_⟩
  by_cases e : j = i
  · subst e
    rw [List.getElem?_set_self (by rw [h.1]; exact hj), if_pos (.inr (by omega))]
  · rw [List.getElem?_set_ne e, h.2 i hi]
    congr 1
    by_cases hq : parAt L i = false ∨ i < j
    · rw [if_pos hq, if_pos (hq.imp id fun h => by omega)]
    · rw [if_neg hq, if_neg (fun h => hq (h.imp id fun h => by omega))]
theorem laid2_all {L : List C} {f : Nat → ByteArray} {n : Nat} {X : List ByteArray} (h : Laid2 L f n n X) (hn : L.length = n) : X = encL L f := by
  apply List.ext_getElem?
  intro i
  by_cases hi : i < n
  · rw [h.2 i hi, if_pos (.inr hi), List.getElem?_eq_getElem (by rw [encL_len, hn]; exact hi), encL_get]
  · rw [List.getElem?_eq_none (by rw [h.1]; omega), List.getElem?_eq_none (by rw [encL_len, hn]; omega)]
theorem rowD_push (L : List C) (f : Nat → ByteArray) (j rn : Nat) (hp : parAt L j = false) (hr : rowAt L j = (rn : Int)) :
    (fun i : Nat => if i = rn then rowD L f (rn : Int) j ++ [f (dct L j)] else rowD L f (i : Int) j) = fun i : Nat => rowD L f (i : Int) (j + 1) := by
  funext i
  by_cases e : i = rn
  · subst e; rw [if_pos rfl, rowD_yes hp hr]
  · rw [if_neg e, rowD_no (.inr (by rw [hr]; omega))]
theorem rowD_skip (L : List C) (f : Nat → ByteArray) (j : Nat) (hp : parAt L j = true) : (fun i : Nat => rowD L f (i : Int) j) = fun i : Nat => rowD L f (i : Int) (j + 1) := by
  funext i
  rw [rowD_no (.inl hp)]
end Go.Proofs.Ytlhnmcopioeboaa

/- code.Encode, walked. -/
namespace Go.Proofs.Ytlhnmcopioeboaa
set_option maxRecDepth 100000
open Go.RowKit M

theorem rowD_small {L : List C} {f : Nat → ByteArray} {r : Int} {k N : Nat} (hf : ∀ n, (f n).size ≤ N) : ∀ s ∈ rowD L f r k, s.size ≤ N := by
  intro s hs
  obtain ⟨j, _, rfl⟩ := List.mem_map.1 hs
  exact hf _

set_option maxHeartbeats 4000000 in
theorem encode_core (l : List (Int × Int)) (sc : Int) (a : Option Addr) (n0 c0 : Nat) (w : World) (h : Meas w (.agg #[.slice a n0 c0, .int .i64 sc]) l sc) (k t z : Nat) (L : List C) (R : Nat) (hz1 : 1 ≤ z) (hz4 : z ≤ 4) (hL0 : 0 < L.length) (hL : L.length ≤ 32) (hR4 : R ≤ 4)
    (hrow : ∀ j (h : j < L.length), 0 ≤ L[j].row ∧ L[j].row < R) (hlast : ∃ j, ∃ h : j < L.length, L[j].row = (R : Int) - 1) (s : ByteArray) (N : Nat) (hN : s.size = N) (hs : N = z * 64)
    (HO : ∀ w1, Below w.heap.size w w1 → Meas w1 (.agg #[.slice a n0 c0, .int .i64 sc]) l sc → Calls Try.prog 30 #[.agg #[.slice a n0 c0, .int .i64 sc], .agg #[.int .i64 (k : Int), .int .i64 (t : Int)], .int .i64 (z : Int)] w1 fun e w' => ∃ v', e = .returned (.tuple #[v', .int .i64 0]) ∧ OwnC w1.heap.size w' v' L ∧ Below w1.heap.size w1 w') :
    Calls Try.prog 12 #[.agg #[.slice a n0 c0, .int .i64 sc], .agg #[.int .i64 (k : Int), .int .i64 (t : Int)], .string s] w fun e w' => ∃ v', e = .returned (.tuple #[v', .int .i64 0]) ∧ Own w' w.heap.size v' (encL L fun i => sect s (i % z)) ∧ Below w.heap.size w w' := by
  obtain ⟨f, hf⟩ : ∃ f : Nat → ByteArray, f = fun i => sect s (i % z) := ⟨_, rfl⟩
  rw [← hf]
  have K1 := Lib.hid (HeldP.start k t h)
  have HC := Lib.hid (HO _ K1.out.h.below K1.out.h.m)
  have HS : Hid (s.size = z * 64) := Lib.hid (by rw [hN, hs])
  have hN4 : N ≤ 256 := by omega
  have q1 : (N : Int) % 64 = 0 := by omega
  have q2 : (N : Int) / 64 = (z : Int) := by omega
  have q3 : Int.tmod (N : Int) 64 = 0 := by rw [Int.tmod_eq_emod_of_nonneg (by omega)]; exact q1
  have q4 : Int.tdiv (N : Int) 64 = (z : Int) := by rw [Int.tdiv_eq_ediv_of_nonneg (by omega)]; exact q2
  have HF := Lib.hid hf
  have HROW := Lib.hid hrow
  have HLAST := Lib.hid hlast
  have HFS : Hid (∀ i, (f i).size ≤ 64) := Lib.hid fun i => by
    rw [hf]
    show (sect s (i % z)).size ≤ 64
    rw [sect_size (z := z) (by rw [hN, hs]) (Nat.mod_lt _ hz1)]
    exact Nat.le_refl _
  clear h HO hs hf hrow hlast
  go_enter Try.func12, Try.ntmps12
  go_wp2_with fail
  refine HC.out.mono ?_
  rintro e w1 ⟨v1, rfl, ho1, b1⟩
  have HB1 : Hid (Below w.heap.size w w1) := Lib.hid (next K1.out.h.below b1)
  have HV := Lib.hid ho1.v
  clear ho1 b1 HC K1
  obtain ⟨g, n, c, rfl, hn, hg, hC⟩ := HV.out.some hL0
  have HCC := Lib.hid hC
  have HN := Lib.hid hn
  rw [hn] at hL0 hL
  clear hC hn
  obtain ⟨w2, hm1, hO2, b2, s2⟩ := make_texts w1 w1.heap.size n (Nat.le_refl _) (by omega)
  have HO2 := Lib.hid hO2
  have HB2 := Lib.hid b2
  clear hO2 b2
  go_wp2_with fail
  refine (rows_any w2 L g n c (Nat.lt_of_lt_of_le hg HB2.out.size) HN.out (by omega) (fun j hj => (HCC.out j hj).below hg HB2.out) R (by omega) HROW.out HLAST.out).mono ?_
  rintro e w3 ⟨rfl, b3⟩
  obtain ⟨w4, hm2, hc4, hf4, b4, s4⟩ := make_rows w3 R (by omega)
  have HE := Lib.hid (Enc.start (Nat.le_refl _) HO2.out s2 b3 hc4 hf4 b4 s4)
  have HBB : Hid (Below w1.heap.size w1 w4) := Lib.hid (HB2.out.trans ((b3.trans (b4.mono b3.size)).mono HB2.out.size))
  have HBR : Hid (w1.heap.size ≤ w3.heap.size) := Lib.hid (Nat.le_trans (Nat.le_of_lt s2) b3.size)
  clear HO2 HB2 b3 hc4 hf4 b4 s4 s2
  go_wp2_with fail
  clear hm1 hm2
  generalize hgt : w1.heap.size = gt at *
  generalize hgr : w3.heap.size = gr at *
  have HGT := Lib.hid hgt
  have HGR := Lib.hid hgr
  clear hgt hgr
  go_loopw [13, 43] (fun t13 i43 wr => ∃ (j d : Nat), j ≤ n ∧ d ≤ j ∧ i43 = .int .i64 (j : Int) ∧ t13 = .int .i64 (d : Int) ∧ Hid (dct L j = d) ∧ Hid (∃ X V, Enc wr gt gt gr n R X V (fun r : Nat => rowD L f (r : Int) j) ∧ Laid1 L f n j X) ∧ Hid (Below gt w1 wr)) (fun _ i _ => n - (intOf i).toNat)
  case atStart => exact ⟨0, 0, Nat.zero_le _, Nat.le_refl _, rfl, rfl, Lib.hid rfl, Lib.hid ⟨_, _, HE.out, laid1_zero L f n⟩, HBB⟩
  case round =>
    obtain ⟨j, d, hj, hdj, rfl, rfl, HD, HX, HW⟩ := hrel
    have hsz := HW.out.size
    rw [HGT.out] at hsz
    by_cases hjn : j < n
    · have hjL : j < L.length := by rw [HN.out]; exact hjn
      obtain ⟨x, hx⟩ : ∃ x, L[j] = x := ⟨_, rfl⟩
      have hCx := (HCC.out j hjL).below hg HW.out
      have hrw := HROW.out j hjL
      have hct := dct_succ hjL
      rw [hx] at hCx hrw hct
      obtain ⟨e0, e1, e2, e3⟩ := hCx
      have HPX : Hid (parAt L j = x.par) := Lib.hid (by rw [parAt_eq hjL, hx])
      have HRX : Hid (rowAt L j = x.row) := Lib.hid (by rw [rowAt_eq hjL, hx])
      obtain ⟨X, V, hE, hX⟩ := HX.out
      have HEr := Lib.hid hE
      have HXr := Lib.hid hX
      clear hx hjL hE hX HX
      obtain ⟨rn, hrn⟩ := Int.eq_ofNat_of_zero_le hrw.1
      rw [hrn] at e3 hrw HRX
      have hrR : rn < R := by omega
      clear hrw
      cases hp : x.par with
      | true =>
        rw [hp] at e2 hct
        have HNX := Lib.hid (rowD_skip L f j (by rw [HPX.out]; exact hp))
        have HPT : Hid (parAt L j = true) := Lib.hid (by rw [HPX.out]; exact hp)
        have HCT : Hid (dct L (j + 1) = d) := Lib.hid (by rw [hct, HD.out]; rfl)
        clear hp hct HPX
        go_wp2
        go_roundw
        case rel => exact ⟨j + 1, d, by omega, by omega, by go_num, rfl, HCT, Lib.hid ⟨X, V, by rw [← HNX.out]; exact HEr.out.next (boxed _ _), laid1_par HXr.out HPT.out⟩, Lib.hid (HW.out.alloc hsz _)⟩
        case measure => simp [intOf]; omega
      | false =>
        rw [hp] at e2 hct
        have HPF : Hid (parAt L j = false) := Lib.hid (by rw [HPX.out]; exact hp)
        have HCT : Hid (dct L (j + 1) = d + 1) := Lib.hid (by rw [hct, HD.out]; rfl)
        obtain ⟨q, hq⟩ : ∃ q : Nat, (d : Int) % (z : Int) = (q : Int) := ⟨d % z, by simp⟩
        have HQ : Hid (d % z = q) := Lib.hid (by have : ((d % z : Nat) : Int) = (q : Int) := by rw [← hq]; simp
                                                 omega)
        have hq8 : (q : Int) < z := by rw [← hq]; exact Int.emod_lt_of_pos _ (by omega)
        have hz0 : ((z : Int) == 0) = false := by simp; omega
        obtain ⟨y, hy⟩ : ∃ y, f (dct L j) = y := ⟨_, rfl⟩
        have HY : Hid (sect s q = y) := Lib.hid (by rw [← hy, HD.out, HF.out, ← HQ.out])
        have HYF := Lib.hid hy
        have bx := boxed wr (.cells #[.int .i64 x.dev, .int .i64 x.at_, .bool false, .int .i64 (rn : Int)] 58)
        have hE1 := HEr.out.next bx
        have hcb : (wr.alloc (.cells #[.int .i64 x.dev, .int .i64 x.at_, .bool false, .int .i64 (rn : Int)] 58)).cell? ⟨wr.heap.size, 3, none⟩ = some (.int .i64 (rn : Int)) := by simp
        have HE1 := Lib.hid hE1
        have HCB := Lib.hid hcb
        clear hp hct HPX hy hE1 hcb
        go_wp2_with fail
        refine (sector_any s q z _ HS.out (by omega) (by omega)).mono ?_
        rintro e w5 ⟨rfl, b5⟩
        rw [HY.out]
        have hE5 := HE1.out.next b5
        have hs5 := b5.size
        rw [World.size_alloc] at hs5
        have hcb := (b5.cell (p := ⟨wr.heap.size, 3, none⟩) (by simp)).trans HCB.out
        obtain ⟨_, ex, _, _, hXl, _, hfz, hcl⟩ := hE5.own.at_ hL0
        cases ex
        have hcj := hcl j (by rw [hXl]; exact hjn)
        generalize X[j]'(by rw [hXl]; exact hjn) = yold at hcj
        have htl := HEr.out.tlt
        have hfj := hfz j hjn
        have hE6 := hE5.text j hjn y
        have hcb6 : (w5.setCell ⟨gt, j, none⟩ (.string y)).cell? ⟨wr.heap.size, 3, none⟩ = some (.int .i64 (rn : Int)) := by
          rw [World.cell?_setCell_other _ _ _ _ (by intro h'; have := congrArg Addr.block h'; dsimp only at this; omega)]; exact hcb
        have hcj6 : (w5.setCell ⟨gt, j, none⟩ (.string y)).cell? ⟨gt, j, none⟩ = some (.string y) := World.cell?_setCell_same _ _ _ hcj
        have HX6 : Hid (Laid1 L f n (j + 1) (X.set j y)) := Lib.hid (by rw [← HYF.out]; exact laid1_data HXr.out HPF.out hjn)
        have HE6 := Lib.hid hE6
        have HW6 : Hid (Below gt w1 (w5.setCell ⟨gt, j, none⟩ (.string y))) := Lib.hid (((HW.out.alloc hsz _).trans (b5.mono (by simp; omega))).setCell (p := ⟨gt, j, none⟩) (Nat.le_refl _) _)
        have HCB6 := Lib.hid hcb6
        have HCJ6 := Lib.hid hcj6
        have hlt6 : wr.heap.size < (w5.setCell ⟨gt, j, none⟩ (.string y)).heap.size := by simp [World.setCell]; omega
        have HVB : Hid (∀ b, (V rn).ownBlock = some b → b < wr.heap.size) := Lib.hid fun b hb => (World.ownsRow.lt (HEr.out.rows rn hrR) b hb).2
        clear hE5 hE6 hcl hfz hXl hcb6 hcj6 hcb b5 hs5 bx
        go_wp2_with fail
        generalize w5.setCell ⟨gt, j, none⟩ (.string y) = w6 at *
        clear hcj hfj
        obtain ⟨va, vn, vc, hVs⟩ : ∃ va vn vc, V rn = .slice va vn vc := by
          rcases (HE6.out.rows rn hrR).2 with ⟨e, _⟩ | ⟨_, _, _, e, _⟩
          · exact ⟨_, _, _, e⟩
          · exact ⟨_, _, _, e⟩
        have S2 := HE6.out.cell rn hrR
        rw [hVs] at S2
        have S1 := HCB6.out
        have S3 := HCJ6.out
        have HVS := Lib.hid hVs
        have hj1 : ((j : Int)).toNat = j := by omega
        have hr1 : ((rn : Int)).toNat = rn := by omega
        clear hVs e0 e1 e2 e3
        refine wp_region_S 15 (fun w' => w'.cell? ⟨wr.heap.size, 3, none⟩ = some (.int .i64 (rn : Int)) ∧ w'.cell? ⟨gr, rn, none⟩ = some (.slice va vn vc) ∧ w'.cell? ⟨gt, j, none⟩ = some (.string y)) (by kernel_rfl) ?_
        have hS : w6.drew.cell? ⟨wr.heap.size, 3, none⟩ = some (.int .i64 (rn : Int)) ∧ w6.drew.cell? ⟨gr, rn, none⟩ = some (.slice va vn vc) ∧ w6.drew.cell? ⟨gt, j, none⟩ = some (.string y) := ⟨S1, S2, S3⟩
        clear S1 S2 S3
        refine wpAnyS_take (i := 0) (.slice (some ⟨gr, 0, none⟩) R R) rfl (by kernel_rfl) (by kernel_rfl) (by kernel_rfl) (by kernel_rfl) (fun _ _ _ h => h) (Or.inl ⟨by rfl, fun w' hw' => ?_⟩) hS ?_
        · (obtain ⟨h1, h2, h3⟩ := hw'; go_simp)
        (try go_frame)
        refine wpAnyS_take (i := 1) (.pointer (some ⟨wr.heap.size, 3, none⟩)) rfl (by kernel_rfl) (by kernel_rfl) (by kernel_rfl) (by kernel_rfl) (fun _ _ _ h => h) (Or.inl ⟨by rfl, fun w' hw' => ?_⟩) hS ?_
        · (obtain ⟨h1, h2, h3⟩ := hw'; go_simp)
        (try go_frame)
        refine wpAnyS_take (i := 2) (.int .i64 (rn : Int)) rfl (by kernel_rfl) (by kernel_rfl) (by kernel_rfl) (by kernel_rfl) (fun _ _ _ h => h) (Or.inl ⟨by rfl, fun w' hw' => ?_⟩) hS ?_
        · (obtain ⟨h1, h2, h3⟩ := hw'; go_simp)
        (try go_frame)
        refine wpAnyS_take (i := 3) (.slice (some ⟨gr, 0, none⟩) R R) rfl (by kernel_rfl) (by kernel_rfl) (by kernel_rfl) (by kernel_rfl) (fun _ _ _ h => h) (Or.inl ⟨by rfl, fun w' hw' => ?_⟩) hS ?_
        · (obtain ⟨h1, h2, h3⟩ := hw'; go_simp)
        (try go_frame)
        refine wpAnyS_take (i := 4) (.pointer (some ⟨wr.heap.size, 3, none⟩)) rfl (by kernel_rfl) (by kernel_rfl) (by kernel_rfl) (by kernel_rfl) (fun _ _ _ h => h) (Or.inl ⟨by rfl, fun w' hw' => ?_⟩) hS ?_
        · (obtain ⟨h1, h2, h3⟩ := hw'; go_simp)
        (try go_frame)
        refine wpAnyS_take (i := 5) (.int .i64 (rn : Int)) rfl (by kernel_rfl) (by kernel_rfl) (by kernel_rfl) (by kernel_rfl) (fun _ _ _ h => h) (Or.inl ⟨by rfl, fun w' hw' => ?_⟩) hS ?_
        · (obtain ⟨h1, h2, h3⟩ := hw'; go_simp)
        (try go_frame)
        refine wpAnyS_take (i := 6) (.pointer (some ⟨gr, rn, none⟩)) rfl (by kernel_rfl) (by kernel_rfl) (by kernel_rfl) (by kernel_rfl) (fun _ _ _ h => h) (Or.inl ⟨by rfl, fun w' hw' => ?_⟩) hS ?_
        · (obtain ⟨h1, h2, h3⟩ := hw'; go_simp)
        (try go_frame)
        refine wpAnyS_take (i := 7) (.slice va vn vc) rfl (by kernel_rfl) (by kernel_rfl) (by kernel_rfl) (by kernel_rfl) (fun _ _ _ h => h) (Or.inl ⟨by rfl, fun w' hw' => ?_⟩) hS ?_
        · (obtain ⟨h1, h2, h3⟩ := hw'; go_simp)
        (try go_frame)
        refine wpAnyS_take (i := 8) (.slice (some ⟨gt, 0, none⟩) n n) rfl (by kernel_rfl) (by kernel_rfl) (by kernel_rfl) (by kernel_rfl) (fun _ _ _ h => h) (Or.inl ⟨by rfl, fun w' hw' => ?_⟩) hS ?_
        · (obtain ⟨h1, h2, h3⟩ := hw'; go_simp)
        (try go_frame)
        refine wpAnyS_take (i := 9) (.int .i64 (j : Int)) rfl (by kernel_rfl) (by kernel_rfl) (by kernel_rfl) (by kernel_rfl) (fun _ _ _ h => h) (Or.inl ⟨by rfl, fun w' hw' => ?_⟩) hS ?_
        · (obtain ⟨h1, h2, h3⟩ := hw'; go_simp)
        (try go_frame)
        refine wpAnyS_take (i := 10) (.pointer (some ⟨gt, j, none⟩)) rfl (by kernel_rfl) (by kernel_rfl) (by kernel_rfl) (by kernel_rfl) (fun _ _ _ h => h) (Or.inl ⟨by rfl, fun w' hw' => ?_⟩) hS ?_
        · (obtain ⟨h1, h2, h3⟩ := hw'; go_simp)
        (try go_frame)
        refine wpAnyS_take (i := 11) (.string y) rfl (by kernel_rfl) (by kernel_rfl) (by kernel_rfl) (by kernel_rfl) (fun _ _ _ h => h) (Or.inl ⟨by rfl, fun w' hw' => ?_⟩) hS ?_
        · (obtain ⟨h1, h2, h3⟩ := hw'; go_simp)
        (try go_frame)
        refine wpAnyS_step (i := 12) (by kernel_rfl) rfl rfl fun K hK => ?_
        go_simp
        have b7 : Below w6.heap.size w6 (w6.alloc (.cells #[.string y] 9)).drew := ((Below.refl _ w6).alloc (Nat.le_refl _) _).drew
        have hE7 := HE6.out.next b7
        have hS7 : (w6.alloc (.cells #[.string y] 9)).drew.cell? ⟨wr.heap.size, 3, none⟩ = some (.int .i64 (rn : Int)) ∧ (w6.alloc (.cells #[.string y] 9)).drew.cell? ⟨gr, rn, none⟩ = some (.slice va vn vc) ∧ (w6.alloc (.cells #[.string y] 9)).drew.cell? ⟨gt, j, none⟩ = some (.string y) :=
          ⟨(b7.cell (p := ⟨wr.heap.size, 3, none⟩) hlt6).trans hS.1, (b7.cell (p := ⟨gr, rn, none⟩) HE6.out.lt).trans hS.2.1, (b7.cell (p := ⟨gt, j, none⟩) HE6.out.tlt).trans hS.2.2⟩
        have HB7 : Hid (Below gt w1 (w6.alloc (.cells #[.string y] 9)).drew) := Lib.hid (HW6.out.trans (b7.mono HE6.out.hB))
        have hnew : (w6.alloc (.cells #[.string y] 9)).drew.cell? ⟨w6.heap.size, 0, none⟩ = some (.string y) := by
          show (w6.alloc (.cells #[.string y] 9)).cell? ⟨w6.heap.size, 0, none⟩ = _
          simp
        refine hK _ _ (fun _ => hS7) ?_
        clear hK hS b7
        (try go_frame)
        generalize hw7 : (w6.alloc (.cells #[.string y] 9)).drew = w7 at *
        have hlt7 : wr.heap.size < w7.heap.size := by rw [← hw7]; show wr.heap.size < (w6.alloc (.cells #[.string y] 9)).heap.size; simp; omega
        clear hw7
        have hrows := hE7.rows rn hrR
        rw [HVS.out] at hrows
        obtain ⟨v8, w8, e8, hO8, hg8, hb8⟩ := app_row w7 gt (.slice va vn vc) _ y w6.heap.size 0 1 hrows hnew hE7.hB (Nat.le_trans (Nat.add_le_add_right (rowD_len L f (rn : Int) j) 1) (by omega)) 39
        have hS8 : w8.cell? ⟨wr.heap.size, 3, none⟩ = some (.int .i64 (rn : Int)) ∧ w8.cell? ⟨gr, rn, none⟩ = some (.slice va vn vc) ∧ w8.cell? ⟨gt, j, none⟩ = some (.string y) := by
          have hne : ∀ b, b = wr.heap.size ∨ b = gr ∨ b = gt → some b ≠ (Value.slice va vn vc).ownBlock := fun b hb e => by
            rw [← HVS.out] at e
            have h1 := HVB.out b e.symm
            have h2 := HE6.out.apart rn hrR b e.symm
            omega
          exact ⟨hg8.cell (a := ⟨wr.heap.size, 3, none⟩) hS7.1 (hne _ (.inl rfl)), hg8.cell (a := ⟨gr, rn, none⟩) hS7.2.1 (hne _ (.inr (.inl rfl))), hg8.cell (a := ⟨gt, j, none⟩) hS7.2.2 (hne _ (.inr (.inr rfl)))⟩
        have hB8 : Below gt w1 w8 := HB7.out.trans ((Below.refl _ w7).grown hg8 hE7.hB fun b hb => (World.ownsRow.lt hrows b hb).1)
        have hfr8 : w8.frozen? ⟨gr, rn, none⟩ = false := by
          rw [World.frozen?_of_block (w := w7) (a := ⟨gr, rn, none⟩) (hg8.block gr hE7.lt fun e => by rw [← HVS.out] at e; exact (hE7.apart rn hrR gr e.symm).2 rfl)]
          exact hE7.frz rn hrR
        have hE9 := hE7.push rn hrR v8 _ (by rw [HVS.out]; exact hg8) hO8 (by rw [HVS.out]; exact hb8)
        have HR9 : Hid ((fun i : Nat => if i = rn then rowD L f (rn : Int) j ++ [y] else rowD L f (i : Int) j) = fun i : Nat => rowD L f (i : Int) (j + 1)) := Lib.hid (by rw [← HYF.out]; exact rowD_push L f j rn HPF.out HRX.out)
        rw [HR9.out] at hE9
        have HE9 := Lib.hid hE9
        obtain ⟨ua, un, uc, hu⟩ : ∃ ua un uc, v8 = .slice ua un uc := by
          rcases hO8.2 with ⟨e, _⟩ | ⟨_, _, _, e, _⟩
          · exact ⟨_, _, _, e⟩
          · exact ⟨_, _, _, e⟩
        subst hu
        clear hE9 hO8 hg8 hb8 hrows hnew hE7 hS7
        refine wpAnyS_step (i := 13) (by kernel_rfl) rfl rfl fun K hK => Lib.wp_append_run _ _ _ _ _ rfl _ _ rfl rfl _ _ e8 ?_
        refine hK _ _ (fun _ => hS8) ?_
        clear hK
        have hS := hS8
        (try go_frame)
        refine wpAnyS_take (i := 14) (.pointer (some ⟨gr, rn, none⟩)) rfl (by kernel_rfl) (by kernel_rfl) (by kernel_rfl) (by kernel_rfl) (fun _ _ _ h => h) (Or.inl ⟨by rfl, fun w' hw' => ?_⟩) hS ?_
        · (obtain ⟨h1, h2, h3⟩ := hw'; go_simp)
        (try go_frame)
        refine wpAnyS_step (i := 15) (by kernel_rfl) rfl rfl fun K hK => ?_
        have hcr := hS8.2.1
        go_simp
        refine hK _ _ (fun h => absurd rfl h) ?_
        clear hK hS hS8 e8 hcr
        have HB9 : Hid (Below gt w1 (w8.setCell ⟨gr, rn, none⟩ (.slice ua un uc))) := Lib.hid (hB8.setCell (p := ⟨gr, rn, none⟩) HBR.out _)
        generalize w8.setCell ⟨gr, rn, none⟩ (.slice ua un uc) = w9 at *
        refine wpAnyS_done (by kernel_rfl) ?_ _
        clear hB8 hfr8
        go_wp2
        go_roundw
        case rel => exact ⟨j + 1, d + 1, by omega, by omega, by go_num, by go_num, HCT, Lib.hid ⟨_, _, HE9.out, HX6.out⟩, HB9⟩
        case measure => simp [intOf]; omega
    · obtain rfl : j = n := by omega
      have HX2 : Hid (∃ X V, Enc wr gt gt gr j R X V (fun r : Nat => rowD L f (r : Int) j) ∧ Laid2 L f j 0 X) := Lib.hid (by
        obtain ⟨X, V, hE, hX⟩ := HX.out
        exact ⟨X, V, hE, laid2_zero hX⟩)
      have HW0 := Lib.hid HW.out
      clear HX HW HE HBB
      go_wp2_with fail
      rename World => w7
      go_loopw [78] (fun i78 wr => ∃ i : Nat, i ≤ j ∧ i78 = .int .i64 (i : Int) ∧ Hid (∃ X V, Enc wr gt gt gr j R X V (fun r : Nat => rowD L f (r : Int) j) ∧ Laid2 L f j i X) ∧ Hid (Below gt w1 wr)) (fun i _ => j - (intOf i).toNat)
      case atStart => exact ⟨0, Nat.zero_le _, rfl, HX2, HW0⟩
      case round =>
        obtain ⟨i, hi, rfl, HX, HW⟩ := hrel
        clear HX2 HW0
        have hsz := HW.out.size
        rw [HGT.out] at hsz
        by_cases hin : i < j
        · have hiL : i < L.length := by rw [HN.out]; exact hin
          obtain ⟨x, hx⟩ : ∃ x, L[i] = x := ⟨_, rfl⟩
          have hCx := (HCC.out i hiL).below hg HW.out
          have hrw := HROW.out i hiL
          rw [hx] at hCx hrw
          obtain ⟨e0, e1, e2, e3⟩ := hCx
          have HPX : Hid (parAt L i = x.par) := Lib.hid (by rw [parAt_eq hiL, hx])
          have HRX : Hid (rowAt L i = x.row) := Lib.hid (by rw [rowAt_eq hiL, hx])
          obtain ⟨X, V, hE, hX⟩ := HX.out
          have HEr := Lib.hid hE
          have HXr := Lib.hid hX
          clear hx hiL hE hX HX
          obtain ⟨rn, hrn⟩ := Int.eq_ofNat_of_zero_le hrw.1
          rw [hrn] at e3 hrw HRX
          have hrR : rn < R := by omega
          clear hrw
          cases hp : x.par with
          | false =>
            rw [hp] at e2
            have HPF : Hid (parAt L i = false) := Lib.hid (by rw [HPX.out]; exact hp)
            clear hp HPX
            go_wp2
            go_roundw
            case rel => exact ⟨i + 1, by omega, by go_num, Lib.hid ⟨X, V, HEr.out.next (boxed _ _), laid2_data HXr.out HPF.out⟩, Lib.hid (HW.out.alloc hsz _)⟩
            case measure => simp [intOf]; omega
          | true =>
            rw [hp] at e2
            obtain ⟨y, hy⟩ : ∃ y, mkB (rowD L f (rn : Int) j) = y := ⟨_, rfl⟩
            have HY : Hid (encAt L f i = y) := Lib.hid (by rw [← hy, encAt, HPX.out, hp, HRX.out, HN.out]; rfl)
            have HYY := Lib.hid hy
            have bx := boxed wr (.cells #[.int .i64 x.dev, .int .i64 x.at_, .bool true, .int .i64 (rn : Int)] 58)
            have hE1 := HEr.out.next bx
            have hrc := hE1.cell rn hrR
            obtain ⟨va, vn, vc, hVs⟩ : ∃ va vn vc, V rn = .slice va vn vc := by
              rcases (HEr.out.rows rn hrR).2 with ⟨e, _⟩ | ⟨_, _, _, e, _⟩
              · exact ⟨_, _, _, e⟩
              · exact ⟨_, _, _, e⟩
            have hrt := (hE1.rows rn hrR).txt
            rw [hVs] at hrc hrt
            have HRT := Lib.hid hrt
            have HE1 := Lib.hid hE1
            clear hp HPX hy hE1 hrt hVs
            go_wp2_with fail
            refine (make_any _ _ _ HRT.out (Nat.le_trans (rowD_len L f (rn : Int) j) (by unfold maxLen; omega)) (fun s' hs' => Nat.le_trans (rowD_small HFS.out s' hs') (by decide))).mono ?_
            rintro e w5 ⟨rfl, b5⟩
            rw [HYY.out]
            have hE5 := HE1.out.next b5
            obtain ⟨_, ex, _, _, hXl, _, hfz, hcl⟩ := hE5.own.at_ (by omega)
            cases ex
            have hcj := hcl i (by rw [hXl]; exact hin)
            generalize X[i]'(by rw [hXl]; exact hin) = yold at hcj
            have hfj := hfz i hin
            have HE6 := Lib.hid (hE5.text i hin y)
            have HX6 : Hid (Laid2 L f j (i + 1) (X.set i y)) := Lib.hid (by rw [← HY.out]; exact laid2_par HXr.out hin)
            have HW6 : Hid (Below gt w1 (w5.setCell ⟨gt, i, none⟩ (.string y))) := Lib.hid (((HW.out.alloc hsz _).trans (b5.mono (by simp; omega))).setCell (p := ⟨gt, i, none⟩) (Nat.le_refl _) _)
            clear hE5 hcl hfz hXl b5 bx hrc
            go_wp2
            go_roundw
            case rel => exact ⟨i + 1, by omega, by go_num, Lib.hid ⟨_, V, HE6.out, HX6.out⟩, HW6⟩
            case measure => simp [intOf]; omega
        · obtain rfl : i = j := by omega
          obtain ⟨X, V, hE, hX⟩ := HX.out
          have HO9 : Hid (Own wr gt (.slice (some ⟨gt, 0, none⟩) i i) (encL L f)) := Lib.hid (by rw [← laid2_all hX HN.out]; exact hE.own)
          clear hE hX HX
          go_wp2
          go_ret2
          have hgw : w.heap.size ≤ gt := by rw [← HGT.out]; exact HB1.out.size
          exact ⟨_, rfl, HO9.out.lower hgw, HB1.out.trans (HW.out.mono hgw)⟩
end Go.Proofs.Ytlhnmcopioeboaa

/- code.Encode of any block. -/
namespace Go.Proofs.Ytlhnmcopioeboaa
set_option maxRecDepth 100000
open Go.RowKit M

/-- May a text of N bytes be a block there? -/
def mayT (l : List (Int × Int)) (sc k t : Int) (N : Nat) : Bool := decide (N % 64 = 0) && mayL l sc k t ((N / 64 : Nat) : Int)

set_option maxHeartbeats 1000000 in
theorem encode_bad (l : List (Int × Int)) (sc : Int) (v : Value) (w : World) (h : Meas w v l sc) (k t : Int) (hk : I64 k) (ht : I64 t) (s : ByteArray) (hs : s.size ≤ 1000) (hno : mayT l sc k t s.size = false) :
    Calls Try.prog 12 #[v, .agg #[.int .i64 k, .int .i64 t], .string s] w fun e w' => e = .returned (.tuple #[.slice none 0 0, .int .i64 1]) ∧ Below w.heap.size w w' := by
  have K1 := h
  obtain ⟨a, n, c, rfl, hg⟩ := id h
  replace K1 := Lib.hid (HeldP.start k t K1)
  obtain ⟨N, hN⟩ : ∃ N, s.size = N := ⟨_, rfl⟩
  rw [hN] at hs hno
  by_cases hm : N % 64 = 0
  · have hno' : mayL l sc k t ((N / 64 : Nat) : Int) = false := by simpa [mayT, hm] using hno
    obtain ⟨z, hz⟩ : ∃ z, N / 64 = z := ⟨_, rfl⟩
    rw [hz] at hno'
    have q3 : Int.tmod (N : Int) 64 = 0 := by rw [Int.tmod_eq_emod_of_nonneg (by omega)]; omega
    have q4 : Int.tdiv (N : Int) 64 = (z : Int) := by rw [Int.tdiv_eq_ediv_of_nonneg (by omega)]; omega
    have hz2 : z ≤ 1000 := by omega
    have HC := Lib.hid (of_bad l sc _ _ K1.out.h.m k t (z : Int) hk ht ⟨by omega, by omega⟩ hno')
    clear h hg hno hno' hm hk ht hz
    go_enter Try.func12, Try.ntmps12
    go_wp2_with fail
    refine HC.out.mono ?_
    rintro e w1 ⟨rfl, b1⟩
    go_wp2
    go_ret2
    exact ⟨rfl, next K1.out.h.below b1⟩
  · have q3 : (Int.tmod (N : Int) 64 == 0) = false := by rw [Int.tmod_eq_emod_of_nonneg (by omega)]; simp; omega
    have q4 : ((N : Int) % 64 != 0) = true := by simp; omega
    clear h hg hno hm hk ht
    go_enter Try.func12, Try.ntmps12
    go_wp2
    go_ret2
    exact ⟨rfl, K1.out.h.below⟩

/-- The columns' texts of a block. -/
def encOf (l : List (Int × Int)) (k t z : Nat) (s : ByteArray) : List ByteArray := encL (colsOf l k t z) fun i => sect s (i % z)
theorem encOf_len (l : List (Int × Int)) (k t z : Nat) (s : ByteArray) : (encOf l k t z s).length = (colsOf l k t z).length := encL_len _ _

theorem encode_ok (l : List (Int × Int)) (sc : Int) (v : Value) (w : World) (h : Meas w v l sc) (k t z : Nat) (hB : Blk l sc k t z) (s : ByteArray) (hs : s.size = z * 64) :
    Calls Try.prog 12 #[v, .agg #[.int .i64 (k : Int), .int .i64 (t : Int)], .string s] w fun e w' => ∃ v', e = .returned (.tuple #[v', .int .i64 0]) ∧ Own w' w.heap.size v' (encOf l k t z s) ∧ Below w.heap.size w w' := by
  obtain ⟨a, n, c, rfl, hg⟩ := id h
  have hk := hB.hk
  obtain ⟨kk, u, hlk, hok⟩ : ∃ kk u, l[k] = (kk, u) ∧ okG (kk, u) = true := ⟨l[k].1, l[k].2, rfl, hB.right.all k hk⟩
  obtain ⟨u0, rfl⟩ := Int.eq_ofNat_of_zero_le (show 0 ≤ u by have := okG_wide hok; omega)
  obtain ⟨R, hR⟩ := hB.rowed hlk
  exact encode_core l sc a n c w h k t z (colsOf l k t z) R hB.z1 hB.z4 hB.laid.pos hB.laid.few hR.few hR.in_ hR.last s s.size rfl hs
    (fun w1 _ hM => of_ok l sc _ w1 hM k t z hB)

/-- What Encode answers of any block. -/
def EncB (l : List (Int × Int)) (sc k t : Int) (s : ByteArray) (B : Nat) (w : World) (v : Value) (er : Int) : Prop :=
  (mayT l sc k t s.size = false ∧ v = .slice none 0 0 ∧ er = 1) ∨ ∃ k' t' z' : Nat, k = k' ∧ t = t' ∧ s.size = z' * 64 ∧ Blk l sc k' t' z' ∧ er = 0 ∧ Own w B v (encOf l k' t' z' s)
theorem mayT_iff {l : List (Int × Int)} {sc k t : Int} {N : Nat} : mayT l sc k t N = true ↔ ∃ k' t' z' : Nat, k = k' ∧ t = t' ∧ N = z' * 64 ∧ Blk l sc k' t' z' := by
  unfold mayT
  rw [Bool.and_eq_true, decide_eq_true_iff, mayL_iff]
  constructor
  · rintro ⟨h, k', t', z', h1, h2, h3, hB⟩
    exact ⟨k', t', z', h1, h2, by omega, hB⟩
  · rintro ⟨k', t', z', h1, h2, h3, hB⟩
    refine ⟨by omega, k', t', z', h1, h2, ?_, hB⟩
    rw [h3, Nat.mul_div_cancel _ (by omega)]
theorem encode_any (l : List (Int × Int)) (sc : Int) (v : Value) (w : World) (h : Meas w v l sc) (k t : Int) (hk : I64 k) (ht : I64 t) (s : ByteArray) (hs : s.size ≤ 1000) :
    Calls Try.prog 12 #[v, .agg #[.int .i64 k, .int .i64 t], .string s] w fun e w' => ∃ v' er, e = .returned (.tuple #[v', .int .i64 er]) ∧ EncB l sc k t s w.heap.size w' v' er ∧ Below w.heap.size w w' := by
  cases hm : mayT l sc k t s.size with
  | false => exact (encode_bad l sc v w h k t hk ht s hs hm).mono fun e w' ⟨h1, h2⟩ => ⟨_, _, h1, .inl ⟨hm, rfl, rfl⟩, h2⟩
  | true =>
    obtain ⟨k', t', z', rfl, rfl, h3, hB⟩ := mayT_iff.1 hm
    exact (encode_ok l sc v w h k' t' z' hB s h3).mono fun e w' ⟨v', h1, h2, h4⟩ => ⟨_, _, h1, .inr ⟨k', t', z', rfl, rfl, h3, hB, rfl, h2⟩, h4⟩
end Go.Proofs.Ytlhnmcopioeboaa

/- vdev.encoded, spared. -/
namespace Go.Proofs.Ytlhnmcopioeboaa
set_option maxRecDepth 100000
open Go.RowKit Go.Maps M

/-- A box that holds a place. -/
structure BoxP (k t : Int) (b : Nat) (w : World) : Prop where
  c0 : w.cell? ⟨b, 0, none⟩ = some (.int .i64 k)
  c1 : w.cell? ⟨b, 1, none⟩ = some (.int .i64 t)
theorem BoxP.new (w : World) (k t : Int) (B : Nat) (hB : B ≤ w.heap.size) (ty : TypeId) : New B (w.alloc (.cells #[.int .i64 k, .int .i64 t] ty)) (BoxP k t w.heap.size) :=
  (New.block w _ B hB).mono fun w' e => ⟨by simp [World.cell?, e], by simp [World.cell?, e]⟩

/-- What encoded answers. -/
def EncV (l : List (Int × Int)) (sc k t : Int) (s : ByteArray) (B : Nat) (w : World) (v1 v2 : Value) (er : Int) : Prop :=
  (mayT l sc k t s.size = false ∧ v1 = .slice none 0 0 ∧ v2 = .slice none 0 0 ∧ er = 1) ∨
  ∃ k' t' z' : Nat, k = k' ∧ t = t' ∧ s.size = z' * 64 ∧ Blk l sc k' t' z' ∧ er = 0 ∧ New B w (fun w => OwnC B w v1 (colsOf l k' t' z') ∧ Own w B v2 (encOf l k' t' z' s))


/-- Boxes for a pool's devices and a place, made one behind the other. -/
theorem boxes8 {X : Nat → Prop} {B : Nat} {w : World} {x : Px} {l : List (Int × Int)} {ds : Nat → Dv} {aw : Nat → Bool} {K : Nat} {P : World → Prop} (h : StX X B w x l ds aw K P) (k t : Int) (t1 t2 : TypeId) :
    ∃ w1 w2, w.alloc (.cells #[.slice x.ga x.gn x.gc, .int .i64 x.sc, .slice (some ⟨x.lb, 0, none⟩) x.n x.n, .slice (some ⟨x.ab, 0, none⟩) x.n x.n] t1) = w1 ∧ w1.alloc (.cells #[.int .i64 k, .int .i64 t] t2) = w2 ∧
      w2.heap.size = w.heap.size + 2 ∧ StX X B w2 x l ds aw K (fun w' => P w' ∧ BoxX x w.heap.size w' ∧ BoxP k t (w.heap.size + 1) w') ∧ Below w.heap.size w w2 := by
  have b1 := boxed w (.cells #[.slice x.ga x.gn x.gc, .int .i64 x.sc, .slice (some ⟨x.lb, 0, none⟩) x.n x.n, .slice (some ⟨x.ab, 0, none⟩) x.n x.n] t1)
  have H1 := h.add b1 (BoxX.new w x _ (Nat.le_refl _) _)
  have hz1 : (w.alloc (.cells #[.slice x.ga x.gn x.gc, .int .i64 x.sc, .slice (some ⟨x.lb, 0, none⟩) x.n x.n, .slice (some ⟨x.ab, 0, none⟩) x.n x.n] t1)).heap.size = w.heap.size + 1 := by simp
  refine ⟨_, _, rfl, rfl, by simp, ?_, ?_⟩
  · have b2 := boxed (w.alloc (.cells #[.slice x.ga x.gn x.gc, .int .i64 x.sc, .slice (some ⟨x.lb, 0, none⟩) x.n x.n, .slice (some ⟨x.ab, 0, none⟩) x.n x.n] t1)) (.cells #[.int .i64 k, .int .i64 t] t2)
    have H2 := H1.add b2 (BoxP.new _ k t _ (Nat.le_refl _) _)
    rw [hz1] at H2
    exact H2.mono fun w h => ⟨h.1.1, h.1.2, h.2⟩
  · exact next b1 (boxed _ _)

section
variable {X : Nat → Prop} {B : Nat} {w : World} {x : Px} {l : List (Int × Int)} {ds : Nat → Dv} {aw : Nat → Bool} {K : Nat} {P : World → Prop}
set_option maxHeartbeats 2000000 in
theorem encoded_any (h : StX X B w x l ds aw K P) (k t : Int) (hk : I64 k) (ht : I64 t) (s : ByteArray) (hs : s.size ≤ 1000) :
    Calls Try.prog 27 #[x.val, .agg #[.int .i64 k, .int .i64 t], .string s] w fun e w' => ∃ v1 v2 er, e = .returned (.tuple #[v1, v2, .int .i64 er]) ∧ EncV l x.sc k t s w.heap.size w' v1 v2 er ∧ Below w.heap.size w w' := by
  obtain ⟨wa, w2, ea, e2, z2, H2, b2⟩ := boxes8 h k t 32 26
  have HA := Lib.hid ea
  have HE2 := Lib.hid e2
  have HB2 := Lib.hid b2
  have HR := Lib.hid (right8_any H2)
  have HST := Lib.hid H2
  have HK := Lib.hid hk
  have HT := Lib.hid ht
  obtain ⟨_, ⟨x0, x1, x2, x3⟩, y0, y1⟩ := H2.out
  clear h H2 ea e2 b2 hk ht
  unfold Px.val at HR ⊢
  go_enter Try.func27, Try.ntmps27
  go_wp2_with (first | (rw [HA.out, HE2.out]; fail))
  rw [HA.out, HE2.out]
  go_wp2_with fail
  refine HR.out.mono ?_
  rintro e w3 ⟨rfl, b3⟩
  have HST3 := Lib.hid (HST.out.below b3)
  have HB3 := Lib.hid (next HB2.out b3)
  clear x0 x1 x2 x3 y0 y1 b3 HST HB2
  obtain ⟨_, ⟨x0, x1, x2, x3⟩, y0, y1⟩ := HST3.out.out
  have HE := Lib.hid (encode_any l x.sc x.g w3 HST3.out.meas k t HK.out HT.out s hs)
  unfold Px.g at HE
  go_wp2_with fail
  refine HE.out.mono ?_
  rintro e w4 ⟨v4, er, rfl, he, b4⟩
  have HST4 := Lib.hid (HST3.out.below b4)
  have HB4 := Lib.hid (next HB3.out b4)
  clear x0 x1 x2 x3 y0 y1 HE
  obtain ⟨_, ⟨x0, x1, x2, x3⟩, y0, y1⟩ := HST4.out.out
  rcases he with ⟨hno, rfl, rfl⟩ | ⟨k', t', z', rfl, rfl, hsz, hBl, rfl, hO⟩
  · go_wp2
    go_ret3
    exact ⟨_, _, _, rfl, .inl ⟨hno, rfl, rfl, rfl⟩, HB4.out⟩
  · have q4 : Int.tdiv (s.size : Int) 64 = (z' : Int) := by rw [Int.tdiv_eq_ediv_of_nonneg (by omega)]; omega
    have hz4 := hBl.z4
    have HO := Lib.hid hO
    have HBL := Lib.hid hBl
    have HSZ := Lib.hid hsz
    have HC := Lib.hid (of_ok l x.sc x.g w4 HST4.out.meas k' t' z' hBl)
    have HSS := Lib.hid HB3.out.size
    unfold Px.g at HC
    clear hO hBl hsz
    go_wp2_with fail
    refine HC.out.mono ?_
    rintro e w5 ⟨v5, rfl, hO5, b5⟩
    go_wp2
    go_ret3
    refine ⟨_, _, _, rfl, .inr ⟨k', t', z', rfl, rfl, HSZ.out, HBL.out, rfl, ?_⟩, next HB4.out b5⟩
    exact (New.cols (hO5.lower HB4.out.size)).and (New.txt ((HO.out.lower HSS.out).below b5))
end
theorem spared_any (kk u : Int) (w : World) (hok : okG (kk, u) = true) :
    Calls Try.prog 29 #[.agg #[.int .i64 kk, .int .i64 u]] w fun e w' => e = .returned (.int .i64 (if kk = 0 then u - 1 else 1)) ∧ Below w.heap.size w w' := by
  have hb := Lib.hid (boxed w (.cells #[.int .i64 kk, .int .i64 u] 53))
  rcases okG_cases hok with ⟨rfl, h1, h8⟩ | ⟨rfl, h1, h8⟩
  · clear hok
    go_enter Try.func29, Try.ntmps29
    go_wp2
    go_ret
    exact ⟨by simp, hb.out⟩
  · clear hok
    go_enter Try.func29, Try.ntmps29
    go_wp2
    go_ret
    exact ⟨by simp, hb.out⟩
end Go.Proofs.Ytlhnmcopioeboaa

/- vdev.Write: what becomes of the devices; the walk. -/
namespace Go.Proofs.Ytlhnmcopioeboaa
set_option maxRecDepth 100000
open Go.RowKit Go.Maps M

def devN (L : List C) (j : Nat) : Nat := (L.getD j ⟨0, 0, false, 0⟩).dev.toNat
def atN (L : List C) (j : Nat) : Nat := (L.getD j ⟨0, 0, false, 0⟩).at_.toNat
/-- The devices behind j columns' writing. -/
def wrTo (ds : Nat → Dv) (aw : Nat → Bool) (L : List C) (E : List ByteArray) : Nat → Nat → Dv
  | 0 => ds
  | j + 1 => putD (wrTo ds aw L E j) aw (devN L j) (atN L j) (E.getD j ⟨#[]⟩)
/-- The devices that didn't take one of j columns. -/
def faTo (hr : Nat → Bool) (L : List C) : Nat → List Nat
  | 0 => []
  | j + 1 => if hr (devN L j) then faTo hr L j else putN (faTo hr L j) (devN L j)
theorem wrTo_here (ds : Nat → Dv) (aw : Nat → Bool) (L : List C) (E : List ByteArray) (j : Nat) : hereB (wrTo ds aw L E j) aw = hereB ds aw := by
  induction j with
  | zero => rfl
  | succ j ih => rw [wrTo, hereB_put, ih]
/-- Columns and their texts, as they can be written. -/
structure Puts (n : Nat) (sc : Int) (L : List C) (E : List ByteArray) : Prop where
  len : E.length = L.length
  pos : 0 < L.length
  few : L.length ≤ 32
  dev : ∀ j (h : j < L.length), L[j].dev = (devN L j : Int) ∧ devN L j < n
  at_ : ∀ j (h : j < L.length), L[j].at_ = (atN L j : Int) ∧ (atN L j : Int) < sc
  size : ∀ j, j < E.length → (E.getD j ⟨#[]⟩).size = 64
def failN (ds : Nat → Dv) (aw : Nat → Bool) (L : List C) : Nat := (faTo (hereB ds aw) L L.length).length
def spareN (x : Int × Int) : Int := if x.1 = 0 then x.2 - 1 else 1
def errN (x : Int × Int) (n : Nat) : Int := if spareN x < (n : Int) then 6 else 0
theorem ownC_in {w : World} {B g n c : Nat} {L : List C} (h : OwnC B w (.slice (some ⟨g, 0, none⟩) n c) L) (j : Nat) (hj : j < L.length) : IsC w g (j * 4) L[j] := by
  obtain ⟨g', c', e, _, _, hc⟩ := h.some (by omega)
  simp only [Value.slice.injEq, Option.some.injEq, Addr.mk.injEq, and_true] at e
  obtain ⟨rfl, _⟩ := e
  exact hc.at_ j hj
theorem own_ex {w : World} {B : Nat} {v : Value} {E : List ByteArray} (h : Own w B v E) (hl : 0 < E.length) : ∃ g c, v = .slice (some ⟨g, 0, none⟩) E.length c ∧ E.length ≤ c ∧ B ≤ g ∧ g < w.heap.size := by
  rcases h.2 with ⟨_, h0⟩ | ⟨g, cap, cur, rfl, hB, hb, hnc, _⟩
  · omega
  · exact ⟨g, cap, rfl, hnc, hB, (Array.getElem?_eq_some_iff.1 hb).1⟩
theorem own_in {w : World} {B g n c : Nat} {E : List ByteArray} (h : Own w B (.slice (some ⟨g, 0, none⟩) n c) E) (j : Nat) (hj : j < E.length) : w.cell? ⟨g, j, none⟩ = some (.string (E.getD j ⟨#[]⟩)) := by
  obtain ⟨g', o, c', e, _, _, hc⟩ := h.txt.isSome (by omega)
  simp only [Value.slice.injEq, Option.some.injEq, Addr.mk.injEq, and_true] at e
  obtain ⟨⟨rfl, rfl⟩, _⟩ := e
  have := hc j hj
  rw [Nat.zero_add] at this
  rw [this, List.getD_eq_getElem?_getD, List.getElem?_eq_getElem hj]
  rfl
/-- A pool's group, in memory. -/
theorem StX.group {X : Nat → Prop} {B : Nat} {w : World} {x : Px} {l : List (Int × Int)} {ds : Nat → Dv} {aw : Nat → Bool} {K : Nat} {P : World → Prop} (h : StX X B w x l ds aw K P) (k : Nat) (hk : k < l.length) :
    ∃ g o, x.ga = some ⟨g, o, none⟩ ∧ g < w.heap.size ∧ w.cell? ⟨g, o + k * 2, none⟩ = some (.int .i64 l[k].1) ∧ w.cell? ⟨g, o + k * 2 + 1, none⟩ = some (.int .i64 l[k].2) ∧ k < x.gn ∧ x.gn ≤ 4 := by
  have h4 := h.right.1.few
  obtain ⟨a, n, c, hv, hg, _⟩ := h.meas
  obtain ⟨ga, gn, gc, sc, lb, n8, ab⟩ := x
  unfold Px.g at hv
  cases hv
  obtain ⟨g, o, ha, hG⟩ := hg.2.2 k hk
  have h2 : l.length = gn := hg.2.1
  exact ⟨g, o, ha, hG.lt, hG.c0, hG.c1, by show k < gn; omega, by show gn ≤ 4; omega⟩
/-- What Write and Mend keep beside the devices: boxes, the columns and their texts. -/
structure Kp8 (P : World → Prop) (x : Px) (k t : Int) (b g1 g2 m : Nat) (L : List C) (E : List ByteArray) (w : World) : Prop where
  p : P w
  x : BoxX x b w
  y : BoxP k t (b + 1) w
  c : ∀ j (h : j < L.length), IsC w g1 (j * 4) L[j]
  t : ∀ j, j < m → w.cell? ⟨g2, j, none⟩ = some (.string (E.getD j ⟨#[]⟩))
theorem New.in_ {B : Nat} {w w' : World} {P : World → Prop} {X : Nat → Prop} {B' : Nat} {x : Px} {l : List (Int × Int)} {ds : Nat → Dv} {aw : Nat → Bool} {K : Nat} {Q : World → Prop} (h : StX X B' w x l ds aw K Q) (hb : Below w.heap.size w w') (hq : New w.heap.size w' P) (_ : B = B') : StX X B' w' x l ds aw K (fun w => Q w ∧ P w) := h.add hb hq

section
variable {B : Nat} {w : World} {x : Px} {l : List (Int × Int)} {ds : Nat → Dv} {aw : Nat → Bool} {K : Nat} {P : World → Prop}
set_option maxHeartbeats 4000000 in
theorem write8_ok (h : St B w x l ds aw K P) (k t z : Nat) (hBl : Blk l x.sc k t z) (s : ByteArray) (hs : s.size ≤ 1000) (hsz : s.size = z * 64) (hP : Puts x.n x.sc (colsOf l k t z) (encOf l k t z s)) (hK : K < 4000000000) :
    Calls Try.prog 9 #[x.val, .agg #[.int .i64 (k : Int), .int .i64 (t : Int)], .string s] w fun e w' =>
      e = .returned (.tuple #[.int .i64 (failN ds aw (colsOf l k t z) : Int), .int .i64 (errN (l[k]'hBl.hk) (failN ds aw (colsOf l k t z)))]) ∧
      St B w' x l (wrTo ds aw (colsOf l k t z) (encOf l k t z s) (colsOf l k t z).length) aw (K + 32) P ∧ Below B w w' := by
  obtain ⟨_, h32⟩ := h.right.1.devs h.right.2
  have hbd := hBl.bounds
  obtain ⟨wa, w2, ea, e2, z2, H2, b2⟩ := boxes8 h k t 32 26
  have HA := Lib.hid ea
  have HE2 := Lib.hid e2
  have HB2 := Lib.hid b2
  have hBw := h.lt.2
  have HE := Lib.hid (encoded_any H2 k t ⟨by omega, by omega⟩ ⟨by omega, by omega⟩ s hs)
  have HST := Lib.hid H2
  have HBL := Lib.hid hBl
  have HP := Lib.hid hP
  have HSZ := Lib.hid hsz
  obtain ⟨_, ⟨x0, x1, x2, x3⟩, y0, y1⟩ := H2.out
  have hmm := @run_makeMap Try.prog
  unfold Px.val at HE ⊢
  generalize hL : colsOf l k t z = L
  generalize hEn : encOf l k t z s = E
  have HL := Lib.hid hL
  have HEN := Lib.hid hEn
  clear h H2 ea e2 b2 hP hsz hL hEn
  go_enter Try.func9, Try.ntmps9
  go_wp2_with (first | (rw [HA.out, HE2.out]; fail))
  rw [HA.out, HE2.out]
  go_wp2_with fail
  refine HE.out.mono ?_
  rintro e w3 ⟨v1, v2, er, rfl, he, b3⟩
  rcases he with ⟨hno, _, _, _⟩ | ⟨k', t', z', ek, et, es, hB', rfl, hN⟩
  · exfalso
    have := mayT_iff.2 ⟨k, t, z, rfl, rfl, HSZ.out, HBL.out⟩
    rw [this] at hno
    cases hno
  · obtain rfl : k = k' := by omega
    obtain rfl : t = t' := by omega
    obtain rfl : z = z' := by have := HSZ.out; omega
    rw [HL.out, HEN.out] at hN
    have HP' := Lib.hid (show Puts x.n x.sc L E by rw [← HL.out, ← HEN.out]; exact HP.out)
    have HST3 := Lib.hid (HST.out.add b3 hN)
    have HB3 := Lib.hid (next HB2.out b3)
    clear x0 x1 x2 x3 y0 y1 b3 HST HB2 hN HE HP ek et es
    obtain ⟨hc3, ht3⟩ := HST3.out.out.2
    obtain ⟨m, hm⟩ : ∃ m, L.length = m := ⟨_, rfl⟩
    have hEm : E.length = m := by rw [HP'.out.len, hm]
    have hm0 : 0 < m := by rw [← hm]; exact HP'.out.pos
    have hm32 : m ≤ 32 := by rw [← hm]; exact HP'.out.few
    obtain ⟨g1, c1, rfl, hgc1, hg1, _⟩ := hc3.some (by omega)
    obtain ⟨g2, c2, rfl, hgc2, hg2, _⟩ := own_ex ht3 (by omega)
    have HST4 := Lib.hid (HST3.out.mono (Q := Kp8 P x k t w.heap.size g1 g2 m L E) fun w' h => ⟨h.1.1, h.1.2.1, h.1.2.2, ownC_in h.2.1, fun j hj => own_in h.2.2 j (by omega)⟩)
    rw [hm] at hgc1 ⊢
    rw [hEm] at hgc2 ⊢
    clear hc3 ht3 HST3 hg1 hg2
    have HM := Lib.hid hm
    have HEM := Lib.hid hEm
    clear hm hEm
    have hmb : SMap (w3.alloc (.map #[] 0)) w3.heap.size 0 [] := SMap.made w3
    have HST5 : Hid (StX (fun k => k = w3.heap.size) B (w3.alloc (.map #[] 0)) x l ds aw K (Kp8 P x k t w.heap.size g1 g2 m L E)) := Lib.hid (HST4.out.turnX (Turn.of_below (boxed w3 _)) (fun k hk => .inr (by omega)) (fun k hk => by simp; omega) HST4.out.lt.2)
    have HB5 := Lib.hid ((HB3.out.mono hBw).trans ((boxed w3 (.map #[] 0)).mono (Nat.le_trans hBw HB3.out.size)))
    go_wp2_with fail
    generalize w3.alloc (.map #[] 0) = w5 at *
    generalize w3.heap.size = mb at *
    have HMB := Lib.hid hmb
    clear hmb HST4 HB3
    go_loopw [28] (fun i wr => ∃ j : Nat, j ≤ m ∧ i = .int .i64 j ∧ StX (fun k => k = mb) B wr x l (wrTo ds aw L E j) aw (K + j) (Kp8 P x k t w.heap.size g1 g2 m L E) ∧ SMap wr mb j (faTo (hereB ds aw) L j) ∧ Below B w wr) (fun i _ => m - (intOf i).toNat)
    case atStart => exact ⟨0, Nat.zero_le _, rfl, HST5.out, HMB.out, HB5.out⟩
    case round =>
      obtain ⟨j, hj, rfl, hst, hsm, hbw⟩ := hrel
      have HS := Lib.hid hst
      have HSM := Lib.hid hsm
      have HBW := Lib.hid hbw
      clear hst hsm hbw
      obtain ⟨_, ⟨x0, x1, x2, x3⟩, ⟨y0, y1⟩, hc, htx⟩ := HS.out.out
      by_cases hlt : j < m
      · have hc' := hc j (by rw [HM.out]; exact hlt)
        have ht' := htx j hlt
        obtain ⟨d0, d1⟩ := HP'.out.dev j (by rw [HM.out]; exact hlt)
        obtain ⟨a0, a1⟩ := HP'.out.at_ j (by rw [HM.out]; exact hlt)
        have hsz := HP'.out.size j (by rw [HEM.out]; exact hlt)
        have HW1 : Hid (wrTo ds aw L E (j + 1) = putD (wrTo ds aw L E j) aw (devN L j) (atN L j) (E.getD j ⟨#[]⟩)) := Lib.hid rfl
        have HF1 : Hid (faTo (hereB ds aw) L (j + 1) = if hereB ds aw (devN L j) then faTo (hereB ds aw) L j else putN (faTo (hereB ds aw) L j) (devN L j)) := Lib.hid rfl
        have HHR := Lib.hid (wrTo_here ds aw L E j)
        generalize hTX : E.getD j ⟨#[]⟩ = tx at *
        have HTX := Lib.hid hTX
        clear hTX
        generalize devN L j = d at *
        generalize atN L j = a at *
        generalize hcc : L[j]'(by rw [HM.out]; exact hlt) = cc at *
        obtain ⟨e0, e1, e2, e3⟩ := hc'
        clear hc htx hcc
        obtain ⟨cd, ca, cp, cr⟩ := cc
        simp only at d0 a0 e0 e1 e2 e3
        subst d0 a0
        have hb6 := boxed wr (.cells #[.int .i64 (d : Int), .int .i64 (a : Int), .bool cp, .int .i64 cr] 58)
        have HS6 := Lib.hid (HS.out.add hb6 (BoxC.new wr ⟨d, a, cp, cr⟩ _ (Nat.le_refl _) 58))
        have HSM6 := Lib.hid (HSM.out.same (hb6.block mb HSM.out.lt))
        have HBW6 := Lib.hid (HBW.out.trans (hb6.mono HS.out.lt.2))
        go_wp2_with fail
        clear hb6 x0 x1 x2 x3 y0 y1 ht' e0 e1 e2 e3
        generalize wr.alloc (.cells #[.int .i64 (d : Int), .int .i64 (a : Int), .bool cp, .int .i64 cr] 58) = w6 at *
        generalize wr.heap.size = bc at *
        have HPU := Lib.hid (put_any (HS6.out.below ((Below.refl _ w6).drew)) ⟨d, a, cp, cr⟩ d a rfl d1 rfl a1 tx hsz (by omega))
        rw [HHR.out] at HPU
        obtain ⟨⟨_, ⟨x0, x1, x2, x3⟩, _, _, htx⟩, z0, z1, z2', z3⟩ := HS6.out.out
        have ht' := (htx j hlt).trans (by rw [HTX.out])
        clear htx
        have q1 : (0 : Int) ≤ (j : Int) := by omega
        have q2 : (j : Int) < (m : Int) := by omega
        unfold Px.val C.val at HPU
        go_region_held3 (fun W => W.cell? ⟨w.heap.size, 0, none⟩ = some (.slice x.ga x.gn x.gc) ∧ W.cell? ⟨w.heap.size, 1, none⟩ = some (.int .i64 x.sc) ∧ W.cell? ⟨w.heap.size, 2, none⟩ = some (.slice (some ⟨x.lb, 0, none⟩) x.n x.n) ∧ W.cell? ⟨w.heap.size, 3, none⟩ = some (.slice (some ⟨x.ab, 0, none⟩) x.n x.n) ∧ W.cell? ⟨bc, 0, none⟩ = some (.int .i64 (d : Int)) ∧ W.cell? ⟨bc, 1, none⟩ = some (.int .i64 (a : Int)) ∧ W.cell? ⟨bc, 2, none⟩ = some (.bool cp) ∧ W.cell? ⟨bc, 3, none⟩ = some (.int .i64 cr) ∧ W.cell? ⟨g2, j, none⟩ = some (.string tx))
          (first | exact ⟨x0, x1, x2, x3, z0, z1, z2', z3, ht'⟩ | exact ⟨k0, k1, k2, k3, k4, k5, k6, k7, k8⟩)
          (first | (go_at_call 28; refine HPU.out.mono ?_; rintro e w7 ⟨rfl, h7, b7, hX7⟩; have HS7 := Lib.hid h7; obtain ⟨⟨_, ⟨k0, k1, k2, k3⟩, _, _, htx7⟩, k4, k5, k6, k7⟩ := h7.out; have k8 := (htx7 j hlt).trans (by rw [HTX.out]); clear htx7 h7))
        have HB7 := Lib.hid (HBW6.out.drew.trans b7)
        have HX7 := Lib.hid (hX7 mb rfl)
        clear b7 hX7 x0 x1 x2 x3 z0 z1 z2' z3 ht' HPU
        cases hh : hereB ds aw d with
        | true =>
          go_wp2
          go_roundw
          case rel =>
            refine ⟨j + 1, by omega, by go_num, ?_, ?_, HB7.out⟩
            · rw [HW1.out]
              exact HS7.out.mono fun w h => h.1
            · rw [HF1.out, hh, if_pos rfl]
              obtain ⟨h1, D, h2, h3⟩ := HSM6.out.same HX7.out
              exact ⟨h1, D, h2.mono (Nat.le_succ _), h3⟩
          case measure => simp [intOf]; omega
        | false =>
          obtain ⟨w8, hr8, hs8, ht8⟩ := SMap.put (HSM6.out.same HX7.out) d (by omega) (by unfold maxLen; omega)
          have HS8 := Lib.hid hs8
          have HT8 := Lib.hid ht8
          clear hs8 ht8
          go_wp2
          go_roundw
          case rel =>
            have tX : Turn (fun k => k = mb) w7 w8 := (Turn.refl _ w7).mapTurned rfl HT8.out
            refine ⟨j + 1, by omega, by go_num, ?_, ?_, HB7.out.trans (tX.below (fun k hk => ?_) HS7.out.lt.2)⟩
            · rw [HW1.out]
              exact (HS7.out.mono fun w h => h.1).turnX tX (fun k hk => .inl hk) (fun k hk => by rw [hk]; exact HS8.out.lt) HS7.out.lt.2
            · rw [HF1.out, hh, if_neg (by simp)]
              exact HS8.out
            · rw [hk]
              obtain ⟨_, _, fp, F, bs, hF⟩ := HS7.out
              exact hF.ge mb (hF.xfp mb rfl)
          case measure => simp [intOf]; omega
      · obtain rfl : j = m := by omega
        have hkl := hBl.hk
        obtain ⟨gg, og, ega, ilt, i0, i1, hkg, hg4⟩ := HS.out.group k hkl
        have hok := hBl.right.all k hkl
        have HNL : Hid (failN ds aw L = (faTo (hereB ds aw) L j).length) := Lib.hid (by unfold failN; rw [HM.out])
        obtain ⟨N, hN⟩ : ∃ N, (faTo (hereB ds aw) L j).length = N := ⟨_, rfl⟩
        rw [hN] at HNL
        generalize hlk : l[k] = lk at i0 i1 hok
        obtain ⟨kk, u⟩ := lk
        have HLK := Lib.hid hlk
        simp only at i0 i1
        rw [ega] at x0 ⊢
        have hN32 := HSM.out.le
        rw [hN] at hN32
        have hlen := fun (q : Ext wr) ty => (HSM.out.same (q.h.block mb HSM.out.lt)).len ty
        rw [hN] at hlen
        have CS : Hid (∀ q : Ext wr, Calls Try.prog 29 #[.agg #[.int .i64 kk, .int .i64 u]] q.v fun e w' => e = .returned (.int .i64 (spareN (kk, u))) ∧ ∃ q' : Ext wr, w' = q'.v) := Lib.hid (Ext.calls fun w' hb => spared_any kk u w' hok)
        have lx : w.heap.size < wr.heap.size := World.block_lt_of_cell? wr _ x0
        have ly : w.heap.size + 1 < wr.heap.size := World.block_lt_of_cell? wr _ y0
        have g0 := fun q : Ext wr => q.cell x0 lx
        have g4 := fun q : Ext wr => q.cell y0 ly
        have g5 := fun q : Ext wr => q.cell i0 ilt
        have g6 := fun q : Ext wr => q.cell i1 ilt
        generalize hsp : spareN (kk, u) = sp at *
        have q1 : (k : Int) < (x.gn : Int) := by omega
        have HSW := Lib.hid hsp
        clear hsp hok hlk i0 i1
        go_wp2_with fail
        haveI hne : Nonempty (Ext wr) := Ext.some wr
        refine wp_region_family (Ext.v (W := wr)) (by kernel_rfl) (by kernel_rfl) ⟨⟨_, (Below.refl _ wr).drew⟩, rfl⟩ ?_
        repeat (go_big_quiet_step (first | (go_at_call 29; exact CS.out _)))
        refine wpQuiet_nil ?_
        rintro w7 ⟨⟨w4, K4⟩, rfl⟩
        have hl4 : ∀ ty, (Builtin.len_ #[70] ty #[.map (some mb)]).run Try.prog w7 = .ok (.int .i64 (N : Int)) w7 := hlen ⟨w7, K4⟩
        have HFIN : Hid (St B w7 x l (wrTo ds aw L E L.length) aw (K + 32) P ∧ Below B w w7) := Lib.hid (by
          rw [HM.out]
          exact ⟨((((HS.out.below K4).mono fun w h => h.p).sub (fun _ h => h.elim)).more (by omega)), HBW.out.trans (K4.mono HS.out.lt.2)⟩)
        clear hlen g0 g4 g5 g6 x0 x1 x2 x3 y0 y1 hc htx
        by_cases hcmp : sp < (N : Int)
        · have d1 : decide (sp < (N : Int)) = true := by simpa using hcmp
          go_wp2
          go_ret2
          refine ⟨?_, HFIN.out⟩
          rw [HNL.out, HLK.out, errN, HSW.out, if_pos hcmp]
          rfl
        · have d1 : decide (sp < (N : Int)) = false := by simpa using hcmp
          go_wp2
          go_ret2
          refine ⟨?_, HFIN.out⟩
          rw [HNL.out, HLK.out, errN, HSW.out, if_neg (by omega)]
          rfl
end
end Go.Proofs.Ytlhnmcopioeboaa

/- code.fitting, code.Fits: columns that were read. -/
namespace Go.Proofs.Ytlhnmcopioeboaa
set_option maxRecDepth 100000
open Go.RowKit M

/-- A column's text, or nothing. -/
def secT (s : ByteArray) : Bool := s.size == 0 || s.size == 64
def fitL (G : List ByteArray) : Bool := G.all secT
theorem empty_txt (s : ByteArray) : s.toList.isEmpty = (s.size == 0) := by
  rw [ByteArray.toList_eq, sizeL]
  cases s.data.toList <;> simp

theorem fitting1_any (s : ByteArray) (w : World) (b : Bool) (hb : secT s = !b) :
    Calls Try.prog 66 #[.string s] w fun e w' => e = .returned (.bool b) ∧ w = w' := by
  have hq := empty_txt s
  unfold secT at hb
  obtain ⟨n, hn⟩ : ∃ n, s.size = n := ⟨_, rfl⟩
  rw [hn] at hb hq
  by_cases h0 : n = 0
  · subst h0
    obtain rfl : b = false := by cases b <;> simp at hb ⊢
    have hq' : s.toList.isEmpty = true := by rw [hq]; rfl
    clear hq hb
    go_enter Try.func66, Try.ntmps66
    go_wp2
    go_ret
    exact ⟨rfl, rfl⟩
  · have hq' : s.toList.isEmpty = false := by rw [hq]; simp [h0]
    have hb' : ((n : Int) == 64) = !b := by
      rw [← hb]
      have : (n == 0) = false := by simp [h0]
      rw [this, Bool.false_or]
      by_cases h : n = 64
      · subst h; rfl
      · rw [show (n == 64) = false by simp [h]]; simp; omega
    clear hq hb
    cases b with
    | true =>
      have hc : ((n : Int) != 64) = true := by unfold bne; rw [hb']; rfl
      clear hb'
      go_enter Try.func66, Try.ntmps66
      go_wp2
      go_ret
      exact ⟨rfl, rfl⟩
    | false =>
      have hc : ((n : Int) != 64) = false := by unfold bne; rw [hb']; rfl
      clear hb'
      go_enter Try.func66, Try.ntmps66
      go_wp2
      go_ret
      exact ⟨rfl, rfl⟩

def fitTo (l : List ByteArray) (k : Nat) : Prop := ∀ j (h : j < l.length), j < k → secT l[j] = true
theorem fitTo_all {l : List ByteArray} (h : fitTo l l.length) : fitL l = true := by
  unfold fitL
  rw [List.all_eq_true]
  intro s hs
  obtain ⟨j, hj, rfl⟩ := List.getElem_of_mem hs
  exact h j hj hj
theorem fit_not {l : List ByteArray} {k : Nat} (hk : k < l.length) (h : secT l[k] = false) : fitL l = false := by
  unfold fitL
  rw [List.all_eq_false]
  exact ⟨_, List.getElem_mem hk, by simp [h]⟩

set_option maxHeartbeats 1000000 in
theorem findex_any (l : List ByteArray) (v : Value) (w : World) (h : Txt w v l) (hm : l.length ≤ 100000) :
    Calls Try.prog 75 #[v, .func (.func 66) #[] #[]] w fun e w' =>
      ∃ k : Int, e = .returned (.int .i64 k) ∧ (fitL l = true → k = -1) ∧ (fitL l = false → 0 ≤ k) ∧ w = w' := by
  obtain ⟨a, c, rfl, hcc, hj⟩ := h
  have HJ := Lib.hid hj
  clear hj
  generalize hn : l.length = n at hm hcc
  have HN := Lib.hid hn
  clear hn
  go_enter Try.func75, Try.ntmps75
  go_wp2_with fail
  go_loop [8] (fun i => ∃ k : Nat, k ≤ n ∧ i = .int .i64 k ∧ Hid (fitTo l k)) (fun i => n - (intOf i).toNat)
  case atStart => exact ⟨0, Nat.zero_le _, rfl, Lib.hid fun j _ hj => absurd hj (Nat.not_lt_zero _)⟩
  case round =>
    obtain ⟨k, hk, rfl, H⟩ := hrel
    by_cases hlt : k < n
    · have hlt' : k < l.length := by rw [HN.out]; exact hlt
      obtain ⟨g, o, rfl, hg, hck⟩ := HJ.out k hlt'
      generalize hs : l[k] = s at hck
      have HS : Hid (∃ h : k < l.length, l[k] = s) := Lib.hid ⟨hlt', hs⟩
      clear hs hlt'
      cases hz : secT s with
      | true =>
        have HZ := Lib.hid hz
        clear hz
        go_wp2_with fail
        refine (fitting1_any s _ false HZ.out).mono ?_
        rintro e w1 ⟨rfl, rfl⟩
        go_wp2
        go_round
        case rel =>
          refine ⟨k + 1, by omega, by go_num, Lib.hid fun j hj hjk => ?_⟩
          by_cases e : j = k
          · subst e
            obtain ⟨_, hs⟩ := HS.out
            rw [hs]; exact HZ.out
          · exact H.out j hj (by omega)
        case measure => simp [intOf]; omega
      | false =>
        have HZ := Lib.hid hz
        clear hz
        go_wp2_with fail
        refine (fitting1_any s _ true HZ.out).mono ?_
        rintro e w1 ⟨rfl, rfl⟩
        go_wp2
        go_ret
        have hno : fitL l = false := by
          obtain ⟨hk', hs⟩ := HS.out
          exact fit_not hk' (by rw [hs]; exact HZ.out)
        exact ⟨k, rfl, fun h => by (rw [hno] at h; cases h), fun _ => by omega, rfl⟩
    · go_wp2
      go_ret
      have hyes : fitL l = true := fitTo_all (by
        obtain rfl : k = n := by omega
        rw [HN.out]; exact H.out)
      exact ⟨-1, rfl, fun _ => rfl, fun h => by (rw [hyes] at h; cases h), rfl⟩
theorem fcontains_any (l : List ByteArray) (v : Value) (w : World) (h : Txt w v l) (hm : l.length ≤ 100000) (b : Bool) (hb : fitL l = b) :
    Calls Try.prog 65 #[v, .func (.func 66) #[] #[]] w fun e w' => e = .returned (.bool (!b)) ∧ w = w' := by
  have HI := Lib.hid (findex_any l v w h hm)
  have HB := Lib.hid hb
  clear h hm hb
  go_enter Try.func65, Try.ntmps65
  go_wp2_with fail
  refine HI.out.mono ?_
  rintro e w1 ⟨k, rfl, h1, h2, rfl⟩
  rw [HB.out] at h1 h2
  cases b with
  | true =>
    obtain rfl := h1 rfl
    go_wp2
    go_ret
    exact ⟨rfl, rfl⟩
  | false =>
    have hk := h2 rfl
    clear h1 h2
    go_wp2
    go_ret
    exact ⟨rfl, rfl⟩

/-- The columns of a block that may be there. -/
def colsI (l : List (Int × Int)) (k t z : Int) : List C := colsOf l k.toNat t.toNat z.toNat
/-- Do columns that were read fit? -/
def fitsL (l : List (Int × Int)) (sc k t z : Int) (G : List ByteArray) : Bool := mayL l sc k t z && decide ((colsI l k t z).length = G.length) && fitL G
/-- What fitting answers. -/
def FitB (l : List (Int × Int)) (sc k t z : Int) (G : List ByteArray) (B : Nat) (w : World) (v : Value) (ok : Bool) : Prop :=
  ok = fitsL l sc k t z G ∧ (ok = true → ∃ k' t' z' : Nat, k = k' ∧ t = t' ∧ z = z' ∧ Blk l sc k' t' z' ∧ (colsOf l k' t' z').length = G.length ∧ fitL G = true ∧ OwnC B w v (colsOf l k' t' z')) ∧ ∃ a n c, v = .slice a n c

set_option maxHeartbeats 1000000 in
theorem fitting_any (l : List (Int × Int)) (sc : Int) (v : Value) (w : World) (h : Meas w v l sc) (k t z : Int) (hk : I64 k) (ht : I64 t) (hz : I64 z) (G : List ByteArray) (vG : Value) (hG : Txt w vG G) (hm : G.length ≤ 100000) :
    Calls Try.prog 46 #[v, .agg #[.int .i64 k, .int .i64 t], .int .i64 z, vG] w fun e w' => ∃ v' ok, e = .returned (.tuple #[v', .bool ok]) ∧ FitB l sc k t z G w.heap.size w' v' ok ∧ Below w.heap.size w w' := by
  have K1 := h
  obtain ⟨a, n, c, rfl, hg⟩ := id h
  replace K1 := Lib.hid (HeldP.start k t K1)
  have HC := Lib.hid (of_any l sc _ _ K1.out.h.m k t z hk ht hz)
  have HG := Lib.hid hG
  obtain ⟨aG, cG, rfl, hcG, hjG⟩ := hG
  generalize hn : G.length = nG at hcG hm HG
  have HN := Lib.hid hn
  clear h hg hk ht hz hjG hn
  go_enter Try.func46, Try.ntmps46
  go_wp2_with fail
  refine HC.out.mono ?_
  rintro e w1 ⟨v1, er, rfl, ho, b1⟩
  have HB := Lib.hid (next K1.out.h.below b1)
  clear b1
  rcases ho with ⟨hno, rfl, rfl⟩ | ⟨k', t', z', rfl, rfl, rfl, hB, rfl, hO⟩
  · have HF : Hid (fitsL l sc k t z G = false) := Lib.hid (by unfold fitsL; rw [hno]; rfl)
    clear hno
    go_wp2
    go_ret2
    exact ⟨_, _, rfl, ⟨HF.out.symm, fun h => (by cases h), _, _, _, rfl⟩, HB.out⟩
  · obtain ⟨g, c1, rfl, hc1, hg1, hA⟩ := OwnC.some hO hB.laid.pos
    have hlen := hB.laid.few
    have HO := Lib.hid hO
    have HBB := Lib.hid hB
    clear hA hO
    have HFF : Hid (fitsL l sc k' t' z' G = (decide ((colsOf l k' t' z').length = G.length) && fitL G)) := Lib.hid (by
      unfold fitsL
      rw [mayL_iff.2 ⟨k', t', z', rfl, rfl, rfl, hB⟩]
      rfl)
    clear hB
    obtain ⟨m, hmm⟩ : ∃ m, (colsOf l k' t' z').length = m := ⟨_, rfl⟩
    rw [hmm] at hlen hc1 HO HFF ⊢
    have HM := Lib.hid hmm
    clear hmm
    by_cases hl : m = nG
    · subst hl
      cases hfit : fitL G with
      | true =>
        have HCF := Lib.hid (fcontains_any G _ w1 (HG.out.below HB.out) (by rw [HN.out]; exact hm) true hfit)
        have HF : Hid (fitsL l sc k' t' z' G = true) := Lib.hid (by rw [HFF.out, HN.out, hfit]; simp)
        have HFT := Lib.hid hfit
        clear hfit
        go_wp2_with fail
        refine HCF.out.mono ?_
        rintro e w2 ⟨rfl, rfl⟩
        go_wp2
        go_ret2
        exact ⟨_, _, rfl, ⟨HF.out.symm, fun _ => ⟨k', t', z', rfl, rfl, rfl, HBB.out, by rw [HM.out, HN.out], HFT.out, HO.out.lower K1.out.h.below.size⟩, _, _, _, rfl⟩, HB.out⟩
      | false =>
        have HCF := Lib.hid (fcontains_any G _ w1 (HG.out.below HB.out) (by rw [HN.out]; exact hm) false hfit)
        have HF : Hid (fitsL l sc k' t' z' G = false) := Lib.hid (by rw [HFF.out, HN.out, hfit]; simp)
        clear hfit
        go_wp2_with fail
        refine HCF.out.mono ?_
        rintro e w2 ⟨rfl, rfl⟩
        go_wp2
        go_ret2
        exact ⟨_, _, rfl, ⟨HF.out.symm, fun h => (by cases h), _, _, _, rfl⟩, HB.out⟩
    · have HF : Hid (fitsL l sc k' t' z' G = false) := Lib.hid (by rw [HFF.out, HN.out]; simp [hl])
      have hl' : ((m : Int) == (nG : Int)) = false := by simp; omega
      have hl2 : ((m : Int) != (nG : Int)) = true := by unfold bne; rw [hl']; rfl
      clear hl
      go_wp2
      go_ret2
      exact ⟨_, _, rfl, ⟨HF.out.symm, fun h => (by cases h), _, _, _, rfl⟩, HB.out⟩

theorem fits_any (l : List (Int × Int)) (sc : Int) (v : Value) (w : World) (h : Meas w v l sc) (k t z : Int) (hk : I64 k) (ht : I64 t) (hz : I64 z) (G : List ByteArray) (vG : Value) (hG : Txt w vG G) (hm : G.length ≤ 100000) :
    Calls Try.prog 24 #[v, .agg #[.int .i64 k, .int .i64 t], .int .i64 z, vG] w fun e w' => e = .returned (.bool (fitsL l sc k t z G)) ∧ Below w.heap.size w w' := by
  have K1 := h
  obtain ⟨a, n, c, rfl, hg⟩ := id h
  replace K1 := Lib.hid (HeldP.start k t K1)
  have HC := Lib.hid (fitting_any l sc _ _ K1.out.h.m k t z hk ht hz G vG (hG.below K1.out.h.below) hm)
  clear h hg hk ht hz hG hm
  go_enter Try.func24, Try.ntmps24
  go_wp2_with fail
  refine HC.out.mono ?_
  rintro e w1 ⟨v1, ok, rfl, ⟨rfl, _, _, _, _, rfl⟩, b1⟩
  go_wp2
  go_ret
  exact ⟨rfl, next K1.out.h.below b1⟩
end Go.Proofs.Ytlhnmcopioeboaa

/- A range over a function whose iterator keeps its place in cells of its own: a law for the statement, and the contract that such an iterator is to meet. No program is named here. -/
namespace Go.Proofs.Ytlhnmcopioeboaa
set_option maxRecDepth 100000
open Go.RowKit

/-- From block B on, all that lay lies as it lay. -/
structure Since (B : Nat) (W W' : World) : Prop where
  size : W.heap.size ≤ W'.heap.size
  same : ∀ k, B ≤ k → k < W.heap.size → W'.heap[k]? = W.heap[k]?

theorem Since.refl (B : Nat) (W : World) : Since B W W := ⟨Nat.le_refl _, fun _ _ _ => rfl⟩
theorem Since.trans {B : Nat} {X Y Z : World} (h : Since B X Y) (g : Since B Y Z) : Since B X Z :=
  ⟨Nat.le_trans h.size g.size, fun k hk hx => (g.same k hk (Nat.lt_of_lt_of_le hx h.size)).trans (h.same k hk hx)⟩
theorem Since.mono {B C : Nat} {X Y : World} (h : Since B X Y) (hBC : B ≤ C) : Since C X Y := ⟨h.size, fun k hk hx => h.same k (Nat.le_trans hBC hk) hx⟩
theorem Since.alloc {B : Nat} {X Y : World} (h : Since B X Y) (o : Obj) : Since B X (Y.alloc o) :=
  h.trans ⟨by simp, fun k _ hk => Below.heap_alloc Y o k hk⟩
theorem Since.setCell {B : Nat} {X Y : World} (h : Since B X Y) {p : Addr} (hp : p.block < B) (v : Value) : Since B X (Y.setCell p v) :=
  h.trans ⟨by simp [World.setCell], fun k hk _ => Below.heap_setCell _ _ _ _ (by omega)⟩
theorem Since.drew {B : Nat} {X Y : World} (h : Since B X Y) : Since B X Y.drew := ⟨h.size, h.same⟩
theorem Since.putObj {B : Nat} {X Y : World} (h : Since B X Y) {l : Nat} (hl : l < B) (o : Obj) : Since B X (Y.putObj l o) :=
  h.trans ⟨by simp, fun k hk _ => World.putObj_heap_other (by omega)⟩
/-- What only made memory keeps all. -/
theorem Since.of_below {B : Nat} {X Y : World} (h : Below X.heap.size X Y) : Since B X Y := ⟨h.size, fun k _ hk => h.block k hk⟩
theorem Since.cell {B : Nat} {X Y : World} (h : Since B X Y) {p : Addr} (h1 : B ≤ p.block) (h2 : p.block < X.heap.size) : Y.cell? p = X.cell? p :=
  World.cell?_of_block (w := X) (h.same p.block h1 h2)
theorem Since.frozen {B : Nat} {X Y : World} (h : Since B X Y) {p : Addr} (h1 : B ≤ p.block) (h2 : p.block < X.heap.size) : Y.frozen? p = X.frozen? p :=
  World.frozen?_of_block (w := X) (h.same p.block h1 h2)
theorem below_putObj {B : Nat} {X Y : World} (h : Below B X Y) {l : Nat} (hl : B ≤ l) (o : Obj) : Below B X (Y.putObj l o) :=
  h.trans ⟨rfl, rfl, rfl, by simp, fun k hk => World.putObj_heap_other (by omega)⟩

/-- What is said of a world by what lies below block B. -/
def Stands (B : Nat) (I : Nat → World → Prop) : Prop := ∀ k X Y, I k X → Below B X Y → I k Y

theorem Stands.mono {B C : Nat} {I : Nat → World → Prop} (h : Stands B I) (hBC : B ≤ C) : Stands C I := fun k X Y hk hb => h k X Y hk (hb.mono hBC)
theorem Stands.putObj {B : Nat} {I : Nat → World → Prop} (h : Stands B I) {k l : Nat} {X : World} (hk : I k X) (hl : B ≤ l) (o : Obj) : I k (X.putObj l o) :=
  h k X _ hk (below_putObj (Below.refl _ _) hl o)

/-- The iterator hands out just xs, one by one, however the rounds go on; what the rounds have made stands through its own steps, and it leans on this alone, that a round leaves the blocks that it made itself. -/
def Hands {α : Type} (F : Fence) (n : Nat) (P : Program) (g : Nat) (lb : Array Value) (enc : α → Value) (xs : List α) (w : World) : Prop :=
  ∀ (l : Nat) (J Jx : Nat → World → Prop) (W : World), Below w.heap.size w W → Stands W.heap.size J → Stands W.heap.size Jx →
    (∀ k x W1, xs[k]? = some x → J k W1 → YieldAt F (n - 1) P l #[enc x] W1 fun e W' =>
      (e = .returned (.bool true) ∧ J (k + 1) W' ∧ Since W.heap.size W1 W') ∨ (e = .returned (.bool false) ∧ Jx (k + 1) W')) →
    J 0 W →
    CallsIn F n P g (#[.func (.yield l) #[] #[]] ++ lb) W fun e W' => (∃ v, e = .returned v) ∧ (J xs.length W' ∨ ∃ k, k ≤ xs.length ∧ Jx k W')

/-- How a round's body may be left. -/
def leftBy (B : Nat) (I : Nat → World → Prop) (Ix : Code → Nat → World → Prop) (k : Nat) (W : World) : Exit → Act → World → Prop
  | .normal, _, W' => Since B W W' ∧ I k W'
  | .ret, _, W' => Since B W W' ∧ Ix .ret k W'
  | .exit id, _, W' => Since B W W' ∧ Ix (.exit id) k W'
  | .goto t, _, W' => Since B W W' ∧ Ix (.goto t) k W'
  | .panic _, _, _ => False
  | .outgrown, _, _ => False

section
variable {F : Fence} {n : Nat} {P : Program}

/-- The statement: its own body once, from I to 'leftBy'; what follows where all have come, and where a round has left. -/
theorem wpIn_range_hands {α : Type} {g : Operand} {ps : Array Tmp} {assign body : Code} {Q : Exit → Act → World → Prop} {a : Act} {w : World}
    (hro : F.round = none) (h1 : 1 ≤ n) {gf : Nat} {lb : Array Value} (hg : a.eval g = .func (.func gf) #[] lb) (hFg : F.fn gf) (eg : ∀ args w, (callFunc gf args).run P w = .ok (.enter gf args) w)
    {enc : α → Value} {xs : List α} {w0 : World} (hseq : Hands F (n - 1) P gf lb enc xs w0) (hb0 : Below w0.heap.size w0 w) (hps : ps.size = 1)
    (I : Nat → World → Prop) (Ix : Code → Nat → World → Prop) (hI : Stands w.heap.size I) (hIx : ∀ c, Stands w.heap.size (Ix c)) (h0 : I 0 w) (a₁ : α → Act)
    (hassign : ∀ (l : Nat) (x : α) (W : World) (K : Act → World → Prop), K (a₁ x) W →
      assign.wpIn (F.inRound l) (n - 1 - 1) P (Exit.then K (fun _ _ _ => False)) { tmps := (ps.zip #[enc x]).foldl (fun t (p, v) => t.setIfInBounds p v) a.tmps, defers := [] } W)
    (hbody : ∀ (l k : Nat) (x : α) (W : World), xs[k]? = some x → I k W → body.wpIn (F.inRound l) (n - 1 - 1) P (leftBy w.heap.size I Ix (k + 1) W) (a₁ x) W)
    (hdone : ∀ (D : Nat) (W : World), w.heap.size ≤ D → I xs.length W → W.heap[D]? = some (.deferred (some [])) → Q .normal { a with defers := { target := .collected D, args := #[] } :: a.defers } W)
    (hstop : ∀ (D : Nat) (c : Code) (k : Nat) (W : World), w.heap.size ≤ D → k ≤ xs.length → Ix c k W → W.heap[D]? = some (.deferred (some [])) → c.wpIn F n P Q { a with defers := { target := .collected D, args := #[] } :: a.defers } W) :
    (Code.rangeFunc g ps assign body).wpIn F n P Q a w := by
  refine wpIn_rangeFunc fun fn hfn => ?_
  rw [hro]
  obtain ⟨R, hR⟩ : ∃ R : LoopState → Option Code → Loop, R = fun st pe => { state := st, pending := pe, fn, tmps := a.tmps, params := ps, assign, body, defers := w.heap.size } := ⟨_, rfl⟩
  obtain ⟨V, hV⟩ : ∃ V, (w.alloc (.deferred (some []))).alloc (.loop (R .ready none)) = V := ⟨_, rfl⟩
  have hVs : V.heap.size = w.heap.size + 2 := by rw [← hV]; simp
  have hVl : V.heap[w.heap.size + 1]? = some (.loop (R .ready none)) := by
    have := World.alloc_heap_new (w.alloc (.deferred (some []))) (.loop (R .ready none))
    rw [World.size_alloc] at this
    rw [← hV]; exact this
  have hVd : V.heap[w.heap.size]? = some (.deferred (some [])) := by
    rw [← hV]; exact (Below.heap_alloc _ _ _ (by simp)).trans (World.alloc_heap_new w _)
  have hVb : Below w.heap.size w V := by rw [← hV]; exact ((Below.refl _ w).alloc (Nat.le_refl _) _).alloc (by simp) _
  refine ⟨w.heap.size + 1, [{ target := .collected w.heap.size, args := #[] }], V, { target := .fn (.func gf) lb, args := #[.func (.yield (w.heap.size + 1)) #[] #[]] }, V, gf,
    #[.func (.yield (w.heap.size + 1)) #[] #[]] ++ lb, V, ?_, ?_, ?_, ?_, fun _ => h1, ?_⟩
  · rw [← hV, hR]; exact run_enterLoop_outer _ _ _ _ _
  · simp only [resolve, hg]
    simp [go_sem]
  · intro f' hf'; simp [Target.leads] at hf'; subst hf'; exact hFg
  · simp [invoke, go_sem, eg]
  · refine (hseq (w.heap.size + 1)
      (fun k W => I k W ∧ W.heap[w.heap.size + 1]? = some (.loop (R .ready none)) ∧ W.heap[w.heap.size]? = some (.deferred (some [])))
      (fun k W => ∃ c, Ix c k W ∧ W.heap[w.heap.size + 1]? = some (.loop (R .done (some c))) ∧ W.heap[w.heap.size]? = some (.deferred (some [])))
      V (hb0.trans (hVb.mono hb0.size)) ?_ ?_ ?_ ⟨hI 0 w V h0 hVb, hVl, hVd⟩).mono ?_
    · rintro k X Y ⟨i, r, d⟩ hb
      exact ⟨hI k X Y i (hb.mono (by omega)), (hb.block _ (by omega)).trans r, (hb.block _ (by omega)).trans d⟩
    · rintro k X Y ⟨c, i, r, d⟩ hb
      exact ⟨c, hIx c k X Y i (hb.mono (by omega)), (hb.block _ (by omega)).trans r, (hb.block _ (by omega)).trans d⟩
    · -- one round
      rintro k x W hx ⟨hi, hr, hd⟩
      have hlt : w.heap.size + 1 < W.heap.size := (Array.getElem?_eq_some_iff.1 hr).1
      have hy := run_yield (P := P) (args := #[enc x]) hr (by rw [hR]; simp [hps])
      rw [hR] at hy
      obtain ⟨U, hU⟩ : ∃ U, W.putObj (w.heap.size + 1) (.loop { R .ready none with state := .busy }) = U := ⟨_, rfl⟩
      have hUr : U.heap[w.heap.size + 1]? = some (.loop { R .ready none with state := .busy }) := by rw [← hU]; exact World.putObj_heap_same hlt
      have hUd : U.heap[w.heap.size]? = some (.deferred (some [])) := by rw [← hU]; exact (World.putObj_heap_other (by omega)).trans hd
      have hUs : U.heap.size = W.heap.size := by rw [← hU]; simp
      have hUW : Since V.heap.size W U := by rw [← hU]; exact (Since.refl _ _).putObj (by omega) _
      refine ⟨fn, _, assign, body, hy, roundIn_of_wpIn hfn (hassign _ x W _ ⟨U, by rw [← hU]; exact run_beginRound hr (by rw [hR]), ?_⟩)⟩
      refine wpIn_mono (hbody _ k x U hx (by rw [← hU]; exact hI.putObj hi (by omega) _)) ?_
      have fin : ∀ (jump : Option Code) (X : World), Since w.heap.size U X → ∃ Y, (Instr.endRound (w.heap.size + 1) jump).run P X = .ok (.bool jump.isNone) Y ∧
          Y = X.putObj (w.heap.size + 1) (.loop (R (if jump.isNone then .ready else .done) jump)) ∧ Y.heap[w.heap.size + 1]? = some (.loop (R (if jump.isNone then .ready else .done) jump)) ∧ Y.heap[w.heap.size]? = some (.deferred (some [])) ∧ Since V.heap.size W Y := by
        intro jump X hs
        have hXr := (hs.same (w.heap.size + 1) (by omega) (by omega)).trans hUr
        have hXd := (hs.same w.heap.size (by omega) (by omega)).trans hUd
        have he := run_endRound (P := P) jump hXr
        refine ⟨_, he, by rw [hR], ?_, (World.putObj_heap_other (by omega)).trans hXd, ?_⟩
        · rw [World.putObj_heap_same (Array.getElem?_eq_some_iff.1 hXr).1, hR]
        · exact (hUW.trans (hs.mono (by omega))).putObj (by omega) _
      rintro e a3 X hp
      cases e with
      | normal =>
        obtain ⟨hs, i⟩ := hp
        obtain ⟨Y, he, hY, h2, h3, h4⟩ := fin none X hs
        exact ⟨_, Y, he, .inl ⟨rfl, ⟨by rw [hY]; exact hI.putObj i (by omega) _, h2, h3⟩, h4⟩⟩
      | ret =>
        obtain ⟨hs, i⟩ := hp
        obtain ⟨Y, he, hY, h2, h3, h4⟩ := fin (some .ret) X hs
        exact ⟨_, Y, he, .inr ⟨rfl, .ret, by rw [hY]; exact (hIx _).putObj i (by omega) _, h2, h3⟩⟩
      | exit id =>
        obtain ⟨hs, i⟩ := hp
        obtain ⟨Y, he, hY, h2, h3, h4⟩ := fin (some (.exit id)) X hs
        exact ⟨_, Y, he, .inr ⟨rfl, .exit id, by rw [hY]; exact (hIx _).putObj i (by omega) _, h2, h3⟩⟩
      | goto t =>
        obtain ⟨hs, i⟩ := hp
        obtain ⟨Y, he, hY, h2, h3, h4⟩ := fin (some (.goto t)) X hs
        exact ⟨_, Y, he, .inr ⟨rfl, .goto t, by rw [hY]; exact (hIx _).putObj i (by omega) _, h2, h3⟩⟩
      | panic ch => exact hp.elim
      | outgrown => exact hp.elim
    · -- behind the iterator
      rintro e X ⟨⟨v, rfl⟩, (⟨i, hr, hd⟩ | ⟨k, hk, c, i, hr, hd⟩)⟩
      · refine ⟨none, _, by have := run_endLoop (P := P) hr (by rw [hR]; simp); rw [hR] at this; exact this, ?_⟩
        exact hdone _ _ (Nat.le_refl _) (hI.putObj i (by omega) _) ((World.putObj_heap_other (by omega)).trans hd)
      · refine ⟨some c, _, by have := run_endLoop (P := P) hr (by rw [hR]; simp); rw [hR] at this; exact this, ?_⟩
        exact hstop _ c k _ (Nat.le_refl _) hk ((hIx c).putObj i (by omega) _) ((World.putObj_heap_other (by omega)).trans hd)
end
end Go.Proofs.Ytlhnmcopioeboaa

/- The law for a range over a function once more: what is handed out is several values. -/
namespace Go.Proofs.Ytlhnmcopioeboaa
set_option maxRecDepth 100000
open Go.RowKit

/-- The iterator hands out just xs, one by one; it leans on what lay from block B on in w, which the rounds leave. -/
def HandsS {α : Type} (F : Fence) (n : Nat) (P : Program) (g : Nat) (lb : Array Value) (enc : α → Array Value) (xs : List α) (B : Nat) (w : World) : Prop :=
  ∀ (l : Nat) (J Jx : Nat → World → Prop) (W : World), Since B w W → Stands W.heap.size J → Stands W.heap.size Jx → (∀ k X, J k X → Since B w X) →
    (∀ k x W1, xs[k]? = some x → J k W1 → YieldAt F (n - 1) P l (enc x) W1 fun e W' =>
      (e = .returned (.bool true) ∧ J (k + 1) W' ∧ Since W.heap.size W1 W') ∨ (e = .returned (.bool false) ∧ Jx (k + 1) W')) →
    J 0 W →
    CallsIn F n P g (#[.func (.yield l) #[] #[]] ++ lb) W fun e W' => (∃ v, e = .returned v) ∧ (J xs.length W' ∨ ∃ k, k ≤ xs.length ∧ Jx k W')

section
variable {F : Fence} {n : Nat} {P : Program}

/-- The statement: its own body once, from I to 'leftBy'; what follows where all have come, and where a round has left. -/
theorem wpIn_range_handsS {α : Type} {g : Operand} {ps : Array Tmp} {assign body : Code} {Q : Exit → Act → World → Prop} {a : Act} {w : World}
    (hro : F.round = none) (h1 : 1 ≤ n) {gf : Nat} {lb : Array Value} (hg : a.eval g = .func (.func gf) #[] lb) (hFg : F.fn gf) (eg : ∀ args w, (callFunc gf args).run P w = .ok (.enter gf args) w)
    {enc : α → Array Value} {xs : List α} {w0 : World} {B : Nat} (hseq : HandsS F (n - 1) P gf lb enc xs B w0) (hb0 : Since B w0 w) (hps : ∀ x, (enc x).size = ps.size)
    (I : Nat → World → Prop) (Ix : Code → Nat → World → Prop) (hI : Stands w.heap.size I) (hIx : ∀ c, Stands w.heap.size (Ix c)) (hIK : ∀ k X, I k X → Since B w0 X) (h0 : I 0 w) (a₁ : α → Act)
    (hassign : ∀ (l : Nat) (x : α) (W : World) (K : Act → World → Prop), K (a₁ x) W →
      assign.wpIn (F.inRound l) (n - 1 - 1) P (Exit.then K (fun _ _ _ => False)) { tmps := (ps.zip (enc x)).foldl (fun t (p, v) => t.setIfInBounds p v) a.tmps, defers := [] } W)
    (hbody : ∀ (l k : Nat) (x : α) (W : World), xs[k]? = some x → I k W → body.wpIn (F.inRound l) (n - 1 - 1) P (leftBy w.heap.size I Ix (k + 1) W) (a₁ x) W)
    (hdone : ∀ (D : Nat) (W : World), w.heap.size ≤ D → I xs.length W → W.heap[D]? = some (.deferred (some [])) → Q .normal { a with defers := { target := .collected D, args := #[] } :: a.defers } W)
    (hstop : ∀ (D : Nat) (c : Code) (k : Nat) (W : World), w.heap.size ≤ D → k ≤ xs.length → Ix c k W → W.heap[D]? = some (.deferred (some [])) → c.wpIn F n P Q { a with defers := { target := .collected D, args := #[] } :: a.defers } W) :
    (Code.rangeFunc g ps assign body).wpIn F n P Q a w := by
  refine wpIn_rangeFunc fun fn hfn => ?_
  rw [hro]
  obtain ⟨R, hR⟩ : ∃ R : LoopState → Option Code → Loop, R = fun st pe => { state := st, pending := pe, fn, tmps := a.tmps, params := ps, assign, body, defers := w.heap.size } := ⟨_, rfl⟩
  obtain ⟨V, hV⟩ : ∃ V, (w.alloc (.deferred (some []))).alloc (.loop (R .ready none)) = V := ⟨_, rfl⟩
  have hVs : V.heap.size = w.heap.size + 2 := by rw [← hV]; simp
  have hVl : V.heap[w.heap.size + 1]? = some (.loop (R .ready none)) := by
    have := World.alloc_heap_new (w.alloc (.deferred (some []))) (.loop (R .ready none))
    rw [World.size_alloc] at this
    rw [← hV]; exact this
  have hVd : V.heap[w.heap.size]? = some (.deferred (some [])) := by
    rw [← hV]; exact (Below.heap_alloc _ _ _ (by simp)).trans (World.alloc_heap_new w _)
  have hVb : Below w.heap.size w V := by rw [← hV]; exact ((Below.refl _ w).alloc (Nat.le_refl _) _).alloc (by simp) _
  refine ⟨w.heap.size + 1, [{ target := .collected w.heap.size, args := #[] }], V, { target := .fn (.func gf) lb, args := #[.func (.yield (w.heap.size + 1)) #[] #[]] }, V, gf,
    #[.func (.yield (w.heap.size + 1)) #[] #[]] ++ lb, V, ?_, ?_, ?_, ?_, fun _ => h1, ?_⟩
  · rw [← hV, hR]; exact run_enterLoop_outer _ _ _ _ _
  · simp only [resolve, hg]
    simp [go_sem]
  · intro f' hf'; simp [Target.leads] at hf'; subst hf'; exact hFg
  · simp [invoke, go_sem, eg]
  · refine (hseq (w.heap.size + 1)
      (fun k W => I k W ∧ W.heap[w.heap.size + 1]? = some (.loop (R .ready none)) ∧ W.heap[w.heap.size]? = some (.deferred (some [])))
      (fun k W => ∃ c, Ix c k W ∧ W.heap[w.heap.size + 1]? = some (.loop (R .done (some c))) ∧ W.heap[w.heap.size]? = some (.deferred (some [])))
      V (hb0.trans (Since.of_below hVb)) ?_ ?_ (fun k X hX => hIK k X hX.1) ?_ ⟨hI 0 w V h0 hVb, hVl, hVd⟩).mono ?_
    · rintro k X Y ⟨i, r, d⟩ hb
      exact ⟨hI k X Y i (hb.mono (by omega)), (hb.block _ (by omega)).trans r, (hb.block _ (by omega)).trans d⟩
    · rintro k X Y ⟨c, i, r, d⟩ hb
      exact ⟨c, hIx c k X Y i (hb.mono (by omega)), (hb.block _ (by omega)).trans r, (hb.block _ (by omega)).trans d⟩
    · -- one round
      rintro k x W hx ⟨hi, hr, hd⟩
      have hlt : w.heap.size + 1 < W.heap.size := (Array.getElem?_eq_some_iff.1 hr).1
      have hy := run_yield (P := P) (args := (enc x)) hr (by rw [hR]; simp [hps x])
      rw [hR] at hy
      obtain ⟨U, hU⟩ : ∃ U, W.putObj (w.heap.size + 1) (.loop { R .ready none with state := .busy }) = U := ⟨_, rfl⟩
      have hUr : U.heap[w.heap.size + 1]? = some (.loop { R .ready none with state := .busy }) := by rw [← hU]; exact World.putObj_heap_same hlt
      have hUd : U.heap[w.heap.size]? = some (.deferred (some [])) := by rw [← hU]; exact (World.putObj_heap_other (by omega)).trans hd
      have hUs : U.heap.size = W.heap.size := by rw [← hU]; simp
      have hUW : Since V.heap.size W U := by rw [← hU]; exact (Since.refl _ _).putObj (by omega) _
      refine ⟨fn, _, assign, body, hy, roundIn_of_wpIn hfn (hassign _ x W _ ⟨U, by rw [← hU]; exact run_beginRound hr (by rw [hR]), ?_⟩)⟩
      refine wpIn_mono (hbody _ k x U hx (by rw [← hU]; exact hI.putObj hi (by omega) _)) ?_
      have fin : ∀ (jump : Option Code) (X : World), Since w.heap.size U X → ∃ Y, (Instr.endRound (w.heap.size + 1) jump).run P X = .ok (.bool jump.isNone) Y ∧
          Y = X.putObj (w.heap.size + 1) (.loop (R (if jump.isNone then .ready else .done) jump)) ∧ Y.heap[w.heap.size + 1]? = some (.loop (R (if jump.isNone then .ready else .done) jump)) ∧ Y.heap[w.heap.size]? = some (.deferred (some [])) ∧ Since V.heap.size W Y := by
        intro jump X hs
        have hXr := (hs.same (w.heap.size + 1) (by omega) (by omega)).trans hUr
        have hXd := (hs.same w.heap.size (by omega) (by omega)).trans hUd
        have he := run_endRound (P := P) jump hXr
        refine ⟨_, he, by rw [hR], ?_, (World.putObj_heap_other (by omega)).trans hXd, ?_⟩
        · rw [World.putObj_heap_same (Array.getElem?_eq_some_iff.1 hXr).1, hR]
        · exact (hUW.trans (hs.mono (by omega))).putObj (by omega) _
      rintro e a3 X hp
      cases e with
      | normal =>
        obtain ⟨hs, i⟩ := hp
        obtain ⟨Y, he, hY, h2, h3, h4⟩ := fin none X hs
        exact ⟨_, Y, he, .inl ⟨rfl, ⟨by rw [hY]; exact hI.putObj i (by omega) _, h2, h3⟩, h4⟩⟩
      | ret =>
        obtain ⟨hs, i⟩ := hp
        obtain ⟨Y, he, hY, h2, h3, h4⟩ := fin (some .ret) X hs
        exact ⟨_, Y, he, .inr ⟨rfl, .ret, by rw [hY]; exact (hIx _).putObj i (by omega) _, h2, h3⟩⟩
      | exit id =>
        obtain ⟨hs, i⟩ := hp
        obtain ⟨Y, he, hY, h2, h3, h4⟩ := fin (some (.exit id)) X hs
        exact ⟨_, Y, he, .inr ⟨rfl, .exit id, by rw [hY]; exact (hIx _).putObj i (by omega) _, h2, h3⟩⟩
      | goto t =>
        obtain ⟨hs, i⟩ := hp
        obtain ⟨Y, he, hY, h2, h3, h4⟩ := fin (some (.goto t)) X hs
        exact ⟨_, Y, he, .inr ⟨rfl, .goto t, by rw [hY]; exact (hIx _).putObj i (by omega) _, h2, h3⟩⟩
      | panic ch => exact hp.elim
      | outgrown => exact hp.elim
    · -- behind the iterator
      rintro e X ⟨⟨v, rfl⟩, (⟨i, hr, hd⟩ | ⟨k, hk, c, i, hr, hd⟩)⟩
      · refine ⟨none, _, by have := run_endLoop (P := P) hr (by rw [hR]; simp); rw [hR] at this; exact this, ?_⟩
        exact hdone _ _ (Nat.le_refl _) (hI.putObj i (by omega) _) ((World.putObj_heap_other (by omega)).trans hd)
      · refine ⟨some c, _, by have := run_endLoop (P := P) hr (by rw [hR]; simp); rw [hR] at this; exact this, ?_⟩
        exact hstop _ c k _ (Nat.le_refl _) hk ((hIx c).putObj i (by omega) _) ((World.putObj_heap_other (by omega)).trans hd)
end
end Go.Proofs.Ytlhnmcopioeboaa

/- Numbers sorted, each once. -/
namespace Go.Proofs.Ytlhnmcopioeboaa
set_option maxRecDepth 100000

theorem lt_ext : ∀ (l m : List Int), l.Pairwise (· < ·) → m.Pairwise (· < ·) → (∀ x, x ∈ l ↔ x ∈ m) → l = m
  | [], [], _, _, _ => rfl
  | [], y :: m, _, _, h => by have := (h y).2 List.mem_cons_self; cases this
  | x :: l, [], _, _, h => by have := (h x).1 List.mem_cons_self; cases this
  | x :: l, y :: m, hl, hm, h => by
    obtain ⟨h1, h2⟩ := List.pairwise_cons.1 hl
    obtain ⟨h3, h4⟩ := List.pairwise_cons.1 hm
    have e : x = y := by
      rcases List.mem_cons.1 ((h x).1 List.mem_cons_self) with e | e
      · exact e
      · rcases List.mem_cons.1 ((h y).2 List.mem_cons_self) with e' | e'
        · exact e'.symm
        · have := h3 x e; have := h1 y e'; omega
    subst e
    rw [lt_ext l m h2 h4 fun z => ⟨fun hz => ?_, fun hz => ?_⟩]
    · rcases List.mem_cons.1 ((h z).1 (List.mem_cons_of_mem _ hz)) with e | e
      · subst e; have := h1 z hz; omega
      · exact e
    · rcases List.mem_cons.1 ((h z).2 (List.mem_cons_of_mem _ hz)) with e | e
      · subst e; have := h3 z hz; omega
      · exact e
/-- Of sorted numbers each once: rising, and the same ones. -/
theorem compact_up (d : Array Int) (hs : ∀ i j, i ≤ j → j < d.size → d[i]! ≤ d[j]!) (m : Nat) (hm : m ≤ d.size) :
    (Lib.compactUpTo d m).Pairwise (· < ·) ∧ ∀ x, x ∈ Lib.compactUpTo d m ↔ ∃ j, j < m ∧ d[j]! = x := by
  induction m with
  | zero => exact ⟨by simp [Lib.compactUpTo], fun x => ⟨fun h => by simp [Lib.compactUpTo] at h, fun ⟨j, h, _⟩ => absurd h (Nat.not_lt_zero _)⟩⟩
  | succ m ih =>
    obtain ⟨h1, h2⟩ := ih (by omega)
    rw [Lib.compactUpTo_succ]
    by_cases hk : Lib.keeps d m = true
    · rw [if_pos hk]
      have hlt : ∀ x ∈ Lib.compactUpTo d m, x < d[m]! := fun x hx => by
        obtain ⟨j, hj, e⟩ := (h2 x).1 hx
        have hm0 : ¬ m = 0 := by omega
        have hne : d[m]! ≠ d[m - 1]! := by simpa [Lib.keeps, hm0] using hk
        have a := hs (m - 1) m (by omega) (by omega)
        have b := hs j (m - 1) (by omega) (by omega)
        omega
      refine ⟨List.pairwise_append.2 ⟨h1, by simp, fun a ha b hb => ?_⟩, fun x => ?_⟩
      · rw [List.mem_singleton.1 hb]; exact hlt a ha
      · rw [List.mem_append, h2 x, List.mem_singleton]
        constructor
        · rintro (⟨j, hj, e⟩ | e)
          · exact ⟨j, by omega, e⟩
          · exact ⟨m, by omega, e.symm⟩
        · rintro ⟨j, hj, e⟩
          by_cases ej : j = m
          · subst ej; exact .inr e.symm
          · exact .inl ⟨j, by omega, e⟩
    · rw [if_neg hk, List.append_nil]
      refine ⟨h1, fun x => ?_⟩
      rw [h2 x]
      have hk' : ¬ (m = 0 ∨ d[m]! ≠ d[m - 1]!) := by simpa [Lib.keeps] using hk
      have hm0 : m ≠ 0 := fun e => hk' (.inl e)
      have he : d[m]! = d[m - 1]! := Decidable.byContradiction fun e => hk' (.inr e)
      constructor
      · rintro ⟨j, hj, e⟩; exact ⟨j, by omega, e⟩
      · rintro ⟨j, hj, e⟩
        by_cases ej : j = m
        · subst ej; exact ⟨j - 1, by omega, by rw [← he]; exact e⟩
        · exact ⟨j, by omega, e⟩
def devsS (zs : List Int) : List Int := Lib.compact (zs.mergeSort fun x y => decide (x ≤ y))
theorem devsS_spec (zs : List Int) : (devsS zs).Pairwise (· < ·) ∧ ∀ x, x ∈ devsS zs ↔ x ∈ zs := by
  have h1 := List.pairwise_mergeSort (le := fun x y : Int => decide (x ≤ y)) (fun a b c h1 h2 => by simp at *; omega) (fun a b => by simp; omega) zs
  obtain ⟨ys, hy⟩ : ∃ ys, zs.mergeSort (fun x y => decide (x ≤ y)) = ys := ⟨_, rfl⟩
  have hmem : ∀ x, x ∈ ys ↔ x ∈ zs := fun x => by rw [← hy, List.mem_mergeSort]
  unfold devsS
  rw [hy]
  rw [hy] at h1
  have hget : ∀ j, j < ys.length → ys.toArray[j]! = ys[j]! := fun j _ => by simp
  have hs : ∀ i j, i ≤ j → j < ys.toArray.size → ys.toArray[i]! ≤ ys.toArray[j]! := fun i j hij hj => by
    have hj' : j < ys.length := by simpa using hj
    rw [hget i (by omega), hget j hj', getElem!_pos ys i (by omega), getElem!_pos ys j hj']
    rcases Nat.lt_or_ge i j with h | h
    · have := List.pairwise_iff_getElem.1 h1 i j (by omega) hj' h
      simpa using this
    · obtain rfl : i = j := by omega
      exact Int.le_refl _
  obtain ⟨h2, h3⟩ := compact_up ys.toArray hs ys.length (by simp)
  refine ⟨h2, fun x => ?_⟩
  rw [← hmem x]
  refine (h3 x).trans ⟨?_, ?_⟩
  · rintro ⟨j, hj, e⟩
    rw [hget j hj, getElem!_pos ys j hj] at e
    rw [← e]; exact List.getElem_mem hj
  · intro h
    obtain ⟨j, hj, e⟩ := List.getElem_of_mem h
    exact ⟨j, hj, by rw [hget j hj, getElem!_pos ys j hj]; exact e⟩
theorem devsS_nodup {zs : List Int} (h : zs.Nodup) : (devsS zs).length = zs.length := by
  obtain ⟨h1, h2⟩ := devsS_spec zs
  have h3 : (devsS zs).Nodup := h1.imp fun h => by omega
  exact ((List.perm_ext_iff_of_nodup h3 h).2 h2).length_eq
theorem devsS_run {zs : List Int} {f : Int} {u : Nat} (h : ∀ x, x ∈ zs ↔ f ≤ x ∧ x < f + u) : (devsS zs).length = u := by
  obtain ⟨h1, h2⟩ := devsS_spec zs
  have e : devsS zs = (List.range u).map fun i : Nat => f + (i : Int) := by
    refine lt_ext _ _ h1 ?_ fun x => ?_
    · rw [List.pairwise_map]
      exact List.pairwise_lt_range.imp fun h => by omega
    · rw [h2 x, h x, List.mem_map]
      constructor
      · rintro ⟨ha, hb⟩; exact ⟨(x - f).toNat, List.mem_range.2 (by omega), by omega⟩
      · rintro ⟨i, hi, rfl⟩; have := List.mem_range.1 hi; omega
  rw [e]; simp
theorem devsS_pos {zs : List Int} (h : 0 < zs.length) : 0 < (devsS zs).length := by
  obtain ⟨_, h2⟩ := devsS_spec zs
  exact List.length_pos_of_mem ((h2 zs[0]).2 (List.getElem_mem h))
theorem devsS_le (zs : List Int) : (devsS zs).length ≤ zs.length := by
  have h : ∀ (d : Array Int) (m : Nat), (Lib.compactUpTo d m).length ≤ m := fun d m => by
    induction m with
    | zero => simp [Lib.compactUpTo]
    | succ m ih => rw [Lib.compactUpTo_succ, List.length_append]; split <;> simp <;> omega
  have := h (zs.mergeSort fun x y => decide (x ≤ y)).toArray (zs.mergeSort fun x y => decide (x ≤ y)).length
  unfold devsS Lib.compact
  rw [List.length_mergeSort] at this ⊢
  exact this
end Go.Proofs.Ytlhnmcopioeboaa

/- (Devs of columns is not called here.) -/
namespace Go.Proofs.Ytlhnmcopioeboaa
end Go.Proofs.Ytlhnmcopioeboaa

/- code.without: the data columns, a device's made again. -/
namespace Go.Proofs.Ytlhnmcopioeboaa
set_option maxRecDepth 100000
open Go.RowKit M

/-- Each data column has another one in its row. -/
def Paired (L : List C) : Prop := ∀ a, a < L.length → parAt L a = false → 2 ≤ (idx (fun j => rowAt L j == rowAt L a) L.length).length

end Go.Proofs.Ytlhnmcopioeboaa

/- code.ofMirror, code.ofParity, code.Tries: what is answered is a function that hands out tries. -/
namespace Go.Proofs.Ytlhnmcopioeboaa
set_option maxRecDepth 100000
open Go.RowKit M

theorem below_alloc2 (w : World) (o : Obj) : Below w.heap.size w (w.alloc o) := boxed w o
theorem OwnC.since {w w' : World} {B : Nat} {v : Value} {l : List C} (h : OwnC B w v l) (hs : Since B w w') : OwnC B w' v l := by
  refine ⟨h.1, ?_⟩
  rcases h.2 with hn | ⟨g, cap, cur, rfl, hB, hg, rest⟩
  · exact .inl hn
  · exact .inr ⟨g, cap, cur, rfl, hB, by rw [hs.same g hB (Array.getElem?_eq_some_iff.1 hg).1]; exact hg, rest⟩
theorem Own.since {w w' : World} {B : Nat} {v : Value} {l : List ByteArray} (h : Own w B v l) (hs : Since B w w') : Own w' B v l := by
  refine ⟨h.1, ?_⟩
  rcases h.2 with hn | ⟨g, cap, cur, rfl, hB, hg, rest⟩
  · exact .inl hn
  · exact .inr ⟨g, cap, cur, rfl, hB, by rw [hs.same g hB (Array.getElem?_eq_some_iff.1 hg).1]; exact hg, rest⟩
theorem OwnI.since {w w' : World} {B : Nat} {v : Value} {l : List Int} (h : OwnI B w v l) (hs : Since B w w') : OwnI B w' v l := by
  refine ⟨h.1, ?_⟩
  rcases h.2 with hn | ⟨g, cap, cur, rfl, hB, hg, rest⟩
  · exact .inl hn
  · exact .inr ⟨g, cap, cur, rfl, hB, by rw [hs.same g hB (Array.getElem?_eq_some_iff.1 hg).1]; exact hg, rest⟩

theorem txt_nil (w : World) (a : Addr) (n c : Nat) : (binOp .eql 39 (.slice (some a) n c) (.slice none 0 0)).run Try.prog w = .ok (.bool false) w := by kernel_rfl
theorem col_nil (w : World) (a : Addr) (n c : Nat) : (binOp .eql 55 (.slice (some a) n c) (.slice none 0 0)).run Try.prog w = .ok (.bool false) w := by kernel_rfl
/-- append(v, m...), columns. -/
theorem wpList_append_cols {ops : Array Oper} {rest : List Oper} {o : Oper} {a : Act} {Q : Exit → Act → World → Prop} (w : World) (hgd : o.guard = none) (s x : Operand)
    (ho : o.op = .call { callee := .builtin .append, args := #[s, x], argTypes := #[55, 55] }) (B : Nat) (v : Value) (l m : List C) (g n c' : Nat) (hs : a.eval s = v) (hx : a.eval x = .slice (some ⟨g, 0, none⟩) n c')
    (hv : OwnC B w v l) (hm : m.length = n) (hc : ∀ j (h : j < m.length), IsC w g (j * 4) m[j]) (hB : B ≤ w.heap.size) (hN : l.length + n ≤ 100000)
    (h : ∀ v' w', OwnC B w' v' (l ++ m) → Below B w w' → w.heap.size ≤ w'.heap.size → wpList Try.prog ops Q rest (a.put o.dst v') w') : wpList Try.prog ops Q (o :: rest) a w := by
  obtain ⟨i, hi, hz, hsz, hb⟩ := info_col
  subst hm
  refine wpList_append_own_at w hgd s x _ ho B 58 i _ 4 32 Try.underlying55 hi hz hsz hb rfl (by decide) v l.length (flatC l) hs hv ⟨g, 0, none⟩ m.length c' (flatC m) hx (flatC_len m) (fun j u hj => ?_) (fun u hu => ?_) (by unfold maxLen; omega) (by omega) hB fun v' w' h1 h2 _ _ => ?_
  · have hlt : j < m.length * 4 := by rw [← flatC_len]; exact (List.getElem?_eq_some_iff.1 hj).1
    have e := flatC_at m (j / 4) (by omega) (j % 4) (Nat.mod_lt _ (by decide))
    have e2 := (hc (j / 4) (by omega)).get (j % 4) (Nat.mod_lt _ (by decide))
    rw [show j / 4 * 4 + j % 4 = j by omega] at e e2
    rw [Go.WideShapes.add_plain, Nat.zero_add, e2, ← e, hj]
  · exact flatC_one m u hu
  · refine h v' w' ?_ ((Below.refl B w).grown h2 hB fun k hk => (World.ownsRow.lt hv k hk).1) h2.size
    unfold OwnC
    rw [List.length_append, flatC_app]
    exact h1
theorem own_noC (w : World) (B : Nat) (hB : B ≤ w.heap.size) : OwnC B (w.alloc (.cells #[] 58)) (.slice (some ⟨w.heap.size, 0, none⟩) 0 0) [] := by
  have := World.ownsRow_lit (base := B) (e := 58) (size := 4) w #[] 0 hB (by decide) (by simp)
  simpa [OwnC, flatC] using this
end Go.Proofs.Ytlhnmcopioeboaa

/- code.ofMirror: the function that it answers hands out the tries of a Mirror's columns. -/
namespace Go.Proofs.Ytlhnmcopioeboaa
set_option maxRecDepth 100000
open Go.RowKit Go.Shelf M
attribute [local go_sem] Oper.semAt_some

section
variable {α β : Type} (f : α → Option β) (l : List α)
/-- How many of the first k come. -/
def fmN (k : Nat) : Nat := ((l.take k).filterMap f).length
theorem fm_zero : fmN f l 0 = 0 := by simp [fmN]
theorem fm_all : fmN f l l.length = (l.filterMap f).length := by simp [fmN]
theorem fm_le (k : Nat) : fmN f l k ≤ (l.filterMap f).length := by
  unfold fmN
  exact List.Sublist.length_le (List.Sublist.filterMap f (List.take_sublist k l))
theorem fm_some {k : Nat} (hk : k < l.length) {x : β} (h : f l[k] = some x) : (l.filterMap f)[fmN f l k]? = some x ∧ fmN f l (k + 1) = fmN f l k + 1 := by
  have e : l.filterMap f = (l.take k).filterMap f ++ x :: (l.drop (k + 1)).filterMap f := by
    conv => lhs; rw [← List.take_append_drop k l, List.drop_eq_getElem_cons hk, List.filterMap_append, List.filterMap_cons_some h]
  refine ⟨?_, ?_⟩
  · rw [e]; unfold fmN; rw [List.getElem?_append_right (Nat.le_refl _), Nat.sub_self]; rfl
  · unfold fmN
    rw [List.take_succ_eq_append_getElem hk, List.filterMap_append, List.length_append, List.filterMap_cons_some h]; rfl
theorem fm_none {k : Nat} (hk : k < l.length) (h : f l[k] = none) : fmN f l (k + 1) = fmN f l k := by
  unfold fmN
  rw [List.take_succ_eq_append_getElem hk, List.filterMap_append, List.length_append, List.filterMap_cons_none h]; rfl
end

/-- A try's two values. -/
def encT (x : Int × ByteArray) : Array Value := #[.int .i64 x.1, .string x.2]

/-- What a Mirror's function holds. -/
structure MirS (w : World) (B b1 b2 b3 : Nat) (vL vG : Value) (z : Nat) (L : List C) (G : List ByteArray) : Prop where
  c1 : w.cell? ⟨b1, 0, none⟩ = some vL
  c2 : w.cell? ⟨b2, 0, none⟩ = some (.int .i64 (z : Int))
  c3 : w.cell? ⟨b3, 0, none⟩ = some vG
  l1 : B ≤ b1 ∧ b1 < w.heap.size
  l2 : B ≤ b2 ∧ b2 < w.heap.size
  l3 : B ≤ b3 ∧ b3 < w.heap.size
  cols : OwnC B w vL L
  txts : Own w B vG G
theorem MirS.since {w w' : World} {B b1 b2 b3 : Nat} {vL vG : Value} {z : Nat} {L : List C} {G : List ByteArray} (h : MirS w B b1 b2 b3 vL vG z L G) (hs : Since B w w') : MirS w' B b1 b2 b3 vL vG z L G :=
  ⟨by rw [hs.cell (p := ⟨b1, 0, none⟩) h.l1.1 h.l1.2]; exact h.c1, by rw [hs.cell (p := ⟨b2, 0, none⟩) h.l2.1 h.l2.2]; exact h.c2, by rw [hs.cell (p := ⟨b3, 0, none⟩) h.l3.1 h.l3.2]; exact h.c3,
    ⟨h.l1.1, Nat.lt_of_lt_of_le h.l1.2 hs.size⟩, ⟨h.l2.1, Nat.lt_of_lt_of_le h.l2.2 hs.size⟩, ⟨h.l3.1, Nat.lt_of_lt_of_le h.l3.2 hs.size⟩, h.cols.since hs, h.txts.since hs⟩

theorem chunk_len {G : List ByteArray} {u z d : Nat} (hG : G.length = u * z) (hd : d < u) : (chunk G z d).length = z := by
  unfold chunk
  rw [List.length_take, List.length_drop, hG]
  have : (d + 1) * z ≤ u * z := Nat.mul_le_mul_right _ hd
  rw [Nat.add_mul] at this
  omega
theorem chunk_txt {w : World} {g o c : Nat} {G : List ByteArray} {u z d p : Nat} (hp : d * z = p) (hc : p + z ≤ c) (hG : G.length = u * z) (hd : d < u) (hg : g < w.heap.size) (hj : ∀ j (h : j < G.length), w.cell? ⟨g, o + j, none⟩ = some (.string G[j])) :
    Txt w (.slice (some ⟨g, o + p, none⟩) z (c - p)) (chunk G z d) := by
  have hl := chunk_len hG hd
  have hb : d * z + z ≤ u * z := by rw [← Nat.succ_mul]; exact Nat.mul_le_mul_right _ hd
  subst hp
  have := Txt.mk (w := w) (g := g) (o := o + d * z) (c := c - d * z) (l := chunk G z d) (by rw [hl]; omega) hg (fun j h => by
    have hjG : d * z + j < G.length := by rw [hG]; omega
    rw [Nat.add_assoc, hj _ hjG]
    have e : (chunk G z d)[j]? = some G[d * z + j] := by
      unfold chunk
      rw [List.getElem?_take, if_pos (by rw [← hl]; exact h), List.getElem?_drop, List.getElem?_eq_getElem hjG]
    rw [List.getElem?_eq_getElem h] at e
    rw [Option.some.inj e])
  rwa [hl] at this

end Go.Proofs.Ytlhnmcopioeboaa
