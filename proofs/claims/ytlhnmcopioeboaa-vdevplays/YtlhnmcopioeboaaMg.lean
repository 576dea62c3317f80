/-
  polderlaw08.Devices: a measure's devices, some of them away, some lost.
  polderlaw08.awake.
  The document's answers: Right, Takes, Bytes (polderref05).
  The document's First, May (polderref06).
  The document's Of (polderref06): the same columns.
  The document's Of (polderref06), of a Parity.
  The document's Of, Text, Fits (polderref06, polderref07), of any block.
-/
import Derived.Test.YtlhnmcopioeboaaMf
import Derived.Maps.AppendAt
import Derived.Deep.RegionWith
import Derived.Handy
import Derived.StillTailTactics
import Derived.Lib.AppendZeros

/- polderlaw08.Devices: a measure's devices, some of them away, some lost. -/
namespace Go.Proofs.Ytlhnmcopioeboaa
set_option maxRecDepth 100000
open Go.RowKit Go.Maps M

/-- A slice of bools that came in. -/
def Bl (w : World) (a : Option Addr) (n : Nat) (f : Nat → Bool) : Prop := n ≤ maxLen ∧ ∀ i, i < n → ∃ g o, a = some ⟨g, o, none⟩ ∧ g < w.heap.size ∧ w.cell? ⟨g, o + i, none⟩ = some (.bool (f i))
theorem Bl.below {w w' : World} {a : Option Addr} {n : Nat} {f : Nat → Bool} (h : Bl w a n f) (hb : Below w.heap.size w w') : Bl w' a n f := ⟨h.1, fun i hi => by
  obtain ⟨g, o, ha, hg, hc⟩ := h.2 i hi
  exact ⟨g, o, ha, Nat.lt_of_lt_of_le hg hb.size, (hb.cell (p := ⟨g, o + i, none⟩) hg).trans hc⟩⟩
theorem Bl.nil (w : World) (f : Nat → Bool) : Bl w none 0 f := ⟨Nat.zero_le _, fun _ hi => absurd hi (Nat.not_lt_zero _)⟩
/-- What a list of marks says of a device. -/
def saysB (n : Nat) (f : Nat → Bool) (i : Nat) : Bool := decide (i < n) && f i
/-- An own slice of bools. -/
def OwnBl (B : Nat) (w : World) (v : Value) (l : List Bool) : Prop := w.ownsRow B 4 1 v l.length (l.map Value.bool)
theorem OwnBl.same {B : Nat} {w w' : World} {v : Value} {l : List Bool} (h : OwnBl B w v l) (hb : ∀ k, v.ownBlock = some k → w'.heap[k]? = w.heap[k]?) : OwnBl B w' v l := by
  refine ⟨h.1, ?_⟩
  rcases h.2 with hn | ⟨g, cap, cur, rfl, hB, hg, rest⟩
  · exact .inl hn
  · exact .inr ⟨g, cap, cur, rfl, hB, (hb g rfl).trans hg, rest⟩
theorem OwnBl.below {B : Nat} {w w' : World} {v : Value} {l : List Bool} (h : OwnBl B w v l) (hb : Below w.heap.size w w') : OwnBl B w' v l := h.same fun k hk => hb.block k (World.ownsRow.lt h k hk).2
theorem info_bool : ∃ i, Try.prog.info? 4 = some i ∧ i.zero = some (.bool false) ∧ i.size = 1 ∧ i.bytes = 1 := info_parts (by kernel_rfl)
theorem wpList_append_bool {ops : Array Oper} {rest : List Oper} {o : Oper} {a : Act} {Q : Exit → Act → World → Prop} (w : World) (hgd : o.guard = none) (s x : Operand)
    (ho : o.op = .call { callee := .builtin .append, args := #[s, x], argTypes := #[30, 30] }) (B : Nat) (v : Value) (l : List Bool) (b : Bool) (g c' : Nat) (hs : a.eval s = v) (hx : a.eval x = .slice (some ⟨g, 0, none⟩) 1 c')
    (hv : OwnBl B w v l) (hc : w.cell? ⟨g, 0, none⟩ = some (.bool b)) (hB : B ≤ w.heap.size) (hN : l.length ≤ 100000)
    (h : ∀ v' w', OwnBl B w' v' (l ++ [b]) → w.grownBy w' v.ownBlock → (v'.ownBlock = v.ownBlock ∨ v'.ownBlock = some w.heap.size) → wpList Try.prog ops Q rest (a.put o.dst v') w') : wpList Try.prog ops Q (o :: rest) a w := by
  obtain ⟨i, hi, hz, hsz, hb⟩ := info_bool
  refine wpList_append_own_at w hgd s x _ ho B 4 i _ 1 1 Try.underlying30 hi hz hsz hb rfl (by decide) v l.length (l.map Value.bool) hs hv ⟨g, 0, none⟩ 1 c' [.bool b] hx rfl (fun j u hj => ?_) (fun u hu => ?_) (by unfold maxLen; omega) (by omega) hB fun v' w' h1 h2 _ h4 => ?_
  · have hlt : j < 1 := (List.getElem?_eq_some_iff.1 hj).1
    obtain rfl : j = 0 := by omega
    rw [Go.WideShapes.add_plain, ← hj]
    exact hc
  · rw [List.mem_singleton.1 hu]; rfl
  · refine h v' w' ?_ h2 h4
    unfold OwnBl
    rw [List.length_append, List.map_append]
    exact h1

section
variable (na nl : Nat) (fa fl : Nat → Bool)
def lostD (D : Dv) : Dv := { D.bare with lost := true }
def dsTo (D : Dv) (j i : Nat) : Dv := if i < j ∧ saysB nl fl i = true then lostD D else D
def awTo (j i : Nat) : Bool := decide (i < j) && saysB na fa i
def hereTo (j : Nat) : List Bool := (List.range j).map fun i => !saysB na fa i && !saysB nl fl i
theorem dsTo_zero (D : Dv) : dsTo nl fl D 0 = fun _ => D := by funext i; simp [dsTo]
theorem awTo_zero : awTo na fa 0 = fun _ => false := by funext i; simp [awTo]
theorem dsTo_yes (D : Dv) (j : Nat) (h : saysB nl fl j = true) : upd (dsTo nl fl D j) j (lostD D) = dsTo nl fl D (j + 1) := by
  funext i
  unfold upd dsTo
  by_cases e : i = j
  · subst e; simp [h]
  · rw [if_neg e]
    by_cases h2 : i < j
    · simp [h2, show i < j + 1 by omega]
    · simp [h2, show ¬ i < j + 1 by omega]
theorem dsTo_no (D : Dv) (j : Nat) (h : saysB nl fl j = false) : dsTo nl fl D j = dsTo nl fl D (j + 1) := by
  funext i
  unfold dsTo
  by_cases e : i = j
  · subst e; simp [h]
  · by_cases h2 : i < j
    · simp [h2, show i < j + 1 by omega]
    · simp [h2, show ¬ i < j + 1 by omega]
theorem dsTo_at (D : Dv) (j : Nat) : dsTo nl fl D j j = D := by simp [dsTo]
theorem awTo_set (j : Nat) : upd (awTo na fa j) j (saysB na fa j) = awTo na fa (j + 1) := by
  funext i
  unfold upd awTo
  by_cases e : i = j
  · subst e; simp
  · rw [if_neg e]
    by_cases h2 : i < j
    · simp [h2, show i < j + 1 by omega]
    · simp [h2, show ¬ i < j + 1 by omega]
theorem awTo_at (j : Nat) : awTo na fa (j + 1) j = saysB na fa j := by simp [awTo]
theorem hereTo_succ (j : Nat) : hereTo na nl fa fl (j + 1) = hereTo na nl fa fl j ++ [!saysB na fa j && !saysB nl fl j] := by simp [hereTo, List.range_succ]
theorem hereTo_len (j : Nat) : (hereTo na nl fa fl j).length = j := by simp [hereTo]
theorem hereB_to {D : Dv} (hD : D.lost = false) {n i : Nat} (hi : i < n) : hereB (dsTo nl fl D n) (awTo na fa n) i = (!saysB na fa i && !saysB nl fl i) := by
  unfold hereB dsTo awTo
  cases h : saysB nl fl i <;> simp [hi, hD, lostD]
end
/-- A new device of so many sectors. -/
def zeroDv (sc : Int) : Dv := (newDv sc.toNat).fresh 0

set_option maxHeartbeats 2000000 in
theorem devices_no (l : List (Int × Int)) (sc : Int) (v : Value) (w : World) (h : Meas w v l sc) (hno : 100 < l.length ∨ 200 < sc ∨ rightL l sc = false) (v1 v2 : Value) :
    Calls Try.prog 8 #[v, v1, v2] w fun e w' => e = .returned (.tuple #[noDevs, .slice none 0 0, .bool false]) ∧ Below w.heap.size w w' := by
  obtain ⟨a, gn, gc, rfl, hg, hs0, hs1⟩ := id h
  have hgn : l.length = gn := hg.2.1
  have hgm := hg.1
  unfold maxLen at hgm
  have b1 := boxed w (.cells #[.slice a gn gc, .int .i64 sc] 24)
  have b2 := boxed (w.alloc (.cells #[.slice a gn gc, .int .i64 sc] 24)) (.cells #[.slice none 0 0, .int .i64 0, .slice none 0 0, .slice none 0 0] 32)
  have bb := next b1 b2
  have c0 : ((w.alloc (.cells #[.slice a gn gc, .int .i64 sc] 24)).alloc (.cells #[.slice none 0 0, .int .i64 0, .slice none 0 0, .slice none 0 0] 32)).cell? ⟨w.heap.size, 0, none⟩ = some (.slice a gn gc) := by rw [b2.cell (p := ⟨w.heap.size, 0, none⟩) (by simp)]; simp
  have c1 : ((w.alloc (.cells #[.slice a gn gc, .int .i64 sc] 24)).alloc (.cells #[.slice none 0 0, .int .i64 0, .slice none 0 0, .slice none 0 0] 32)).cell? ⟨w.heap.size, 1, none⟩ = some (.int .i64 sc) := by rw [b2.cell (p := ⟨w.heap.size, 1, none⟩) (by simp)]; simp
  have hres : ((w.alloc (.cells #[.slice a gn gc, .int .i64 sc] 24)).alloc (.cells #[.slice none 0 0, .int .i64 0, .slice none 0 0, .slice none 0 0] 32)).heap[w.heap.size + 1]? = some (.cells #[.slice none 0 0, .int .i64 0, .slice none 0 0, .slice none 0 0] 32) := by
    have := heap_alloc_new (w.alloc (.cells #[.slice a gn gc, .int .i64 sc] 24)) (.cells #[.slice none 0 0, .int .i64 0, .slice none 0 0, .slice none 0 0] 32)
    simpa using this
  have hz2 : ((w.alloc (.cells #[.slice a gn gc, .int .i64 sc] 24)).alloc (.cells #[.slice none 0 0, .int .i64 0, .slice none 0 0, .slice none 0 0] 32)).heap.size = w.heap.size + 2 := by simp
  generalize hw2 : (w.alloc (.cells #[.slice a gn gc, .int .i64 sc] 24)).alloc (.cells #[.slice none 0 0, .int .i64 0, .slice none 0 0, .slice none 0 0] 32) = w2 at b2 bb c0 c1 hres hz2
  have HW2 := Lib.hid hw2
  have HM := Lib.hid (h.below bb)
  have HBB := Lib.hid bb
  have HRES := Lib.hid hres
  have HEND : Hid (∀ V, Below w2.heap.size w2 V → V.heap[w.heap.size + 1]? = some (.cells #[.slice none 0 0, .int .i64 0, .slice none 0 0, .slice none 0 0] 32)) := Lib.hid fun V hb => (hb.block _ (by omega)).trans HRES.out
  clear h hg b1 b2 bb hw2 hres
  by_cases hbig : 100 < l.length ∨ 200 < sc
  · have hre := HEND.out w2 (Below.refl _ _)
    have r0 : w2.cell? ⟨w.heap.size + 1, 0, none⟩ = some (.slice none 0 0) := by simp [World.cell?, hre]
    have r1 : w2.cell? ⟨w.heap.size + 1, 1, none⟩ = some (.int .i64 0) := by simp [World.cell?, hre]
    have r2 : w2.cell? ⟨w.heap.size + 1, 2, none⟩ = some (.slice none 0 0) := by simp [World.cell?, hre]
    have r3 : w2.cell? ⟨w.heap.size + 1, 3, none⟩ = some (.slice none 0 0) := by simp [World.cell?, hre]
    have z0 : w2.frozen? ⟨w.heap.size + 1, 0, none⟩ = false := by simp [World.frozen?, hre]
    have z1 : w2.frozen? ⟨w.heap.size + 1, 1, none⟩ = false := by simp [World.frozen?, hre]
    have z2 : w2.frozen? ⟨w.heap.size + 1, 2, none⟩ = false := by simp [World.frozen?, hre]
    have z3 : w2.frozen? ⟨w.heap.size + 1, 3, none⟩ = false := by simp [World.frozen?, hre]
    have dd : (decide (100 < (gn : Int)) || decide (200 < sc)) = true := by
      rw [Bool.or_eq_true, decide_eq_true_iff, decide_eq_true_iff]
      omega
    clear hre
    by_cases hb1 : 100 < gn
    · have d1 : decide (100 < (gn : Int)) = true := by rw [decide_eq_true_iff]; omega
      go_enter Try.func8, Try.ntmps8
      go_wp2_with (first | (rw [HW2.out]; fail))
      rw [HW2.out]
      go_wp2_with fail
      exact bodyPost_ret (v := .tuple #[noDevs, .slice none 0 0, .bool false]) (by simp [results, Try.results8, go_sem, r0, r1, r2, r3, noDevs]) rfl ⟨rfl, HBB.out⟩
    · have d1 : decide (100 < (gn : Int)) = false := by rw [decide_eq_false_iff_not]; omega
      have d2 : decide (200 < sc) = true := by rw [decide_eq_true_iff]; omega
      go_enter Try.func8, Try.ntmps8
      go_wp2_with (first | (rw [HW2.out]; fail))
      rw [HW2.out]
      go_wp2_with fail
      exact bodyPost_ret (v := .tuple #[noDevs, .slice none 0 0, .bool false]) (by simp [results, Try.results8, go_sem, r0, r1, r2, r3, noDevs]) rfl ⟨rfl, HBB.out⟩
  · have hr : rightL l sc = false := by
      rcases hno with h | h | h
      · exact absurd (.inl h) hbig
      · exact absurd (.inr h) hbig
      · exact h
    have d1 : decide (100 < (gn : Int)) = false := by rw [decide_eq_false_iff_not]; omega
    have d2 : decide (200 < sc) = false := by rw [decide_eq_false_iff_not]; omega
    have HNE := Lib.hid (new8_bad l sc _ w2 HM.out hr 0)
    unfold noDevs at HNE
    clear hr hno hbig
    go_enter Try.func8, Try.ntmps8
    go_wp2_with (first | (rw [HW2.out]; fail))
    rw [HW2.out]
    go_wp2_with fail
    refine HNE.out.mono ?_
    rintro e w3 ⟨rfl, b3⟩
    have hb4 := boxed w3 (.cells #[.slice none 0 0, .int .i64 0, .slice none 0 0, .slice none 0 0] 32)
    have b4 := next b3 hb4
    have hre := HEND.out _ b4
    have r0 : (w3.alloc (.cells #[.slice none 0 0, .int .i64 0, .slice none 0 0, .slice none 0 0] 32)).cell? ⟨w.heap.size + 1, 0, none⟩ = some (.slice none 0 0) := by unfold World.cell?; rw [hre]; rfl
    have r1 : (w3.alloc (.cells #[.slice none 0 0, .int .i64 0, .slice none 0 0, .slice none 0 0] 32)).cell? ⟨w.heap.size + 1, 1, none⟩ = some (.int .i64 0) := by unfold World.cell?; rw [hre]; rfl
    have r2 : (w3.alloc (.cells #[.slice none 0 0, .int .i64 0, .slice none 0 0, .slice none 0 0] 32)).cell? ⟨w.heap.size + 1, 2, none⟩ = some (.slice none 0 0) := by unfold World.cell?; rw [hre]; rfl
    have r3 : (w3.alloc (.cells #[.slice none 0 0, .int .i64 0, .slice none 0 0, .slice none 0 0] 32)).cell? ⟨w.heap.size + 1, 3, none⟩ = some (.slice none 0 0) := by unfold World.cell?; rw [hre]; rfl
    have z0 : (w3.alloc (.cells #[.slice none 0 0, .int .i64 0, .slice none 0 0, .slice none 0 0] 32)).frozen? ⟨w.heap.size + 1, 0, none⟩ = false := by unfold World.frozen?; rw [hre]; rfl
    have z1 : (w3.alloc (.cells #[.slice none 0 0, .int .i64 0, .slice none 0 0, .slice none 0 0] 32)).frozen? ⟨w.heap.size + 1, 1, none⟩ = false := by unfold World.frozen?; rw [hre]; rfl
    have z2 : (w3.alloc (.cells #[.slice none 0 0, .int .i64 0, .slice none 0 0, .slice none 0 0] 32)).frozen? ⟨w.heap.size + 1, 2, none⟩ = false := by unfold World.frozen?; rw [hre]; rfl
    have z3 : (w3.alloc (.cells #[.slice none 0 0, .int .i64 0, .slice none 0 0, .slice none 0 0] 32)).frozen? ⟨w.heap.size + 1, 3, none⟩ = false := by unfold World.frozen?; rw [hre]; rfl
    have HB4 := Lib.hid b4
    have HRE := Lib.hid hre
    clear b3 hb4 b4 hre c0 c1
    go_wp2_with fail
    exact bodyPost_ret (v := .tuple #[noDevs, .slice none 0 0, .bool false]) (by simp [results, Try.results8, go_sem, r0, r1, r2, r3, noDevs]) rfl ⟨rfl, ((((HBB.out.trans (HB4.out.mono HBB.out.size)).setCell (p := ⟨w.heap.size + 1, 0, none⟩) (Nat.le_succ _) _).setCell (p := ⟨w.heap.size + 1, 1, none⟩) (Nat.le_succ _) _).setCell (p := ⟨w.heap.size + 1, 2, none⟩) (Nat.le_succ _) _).setCell (p := ⟨w.heap.size + 1, 3, none⟩) (Nat.le_succ _) _⟩
set_option maxHeartbeats 4000000 in
theorem devices_ok (l : List (Int × Int)) (sc : Int) (v : Value) (w : World) (h : Meas w v l sc) (hl : l.length ≤ 100) (hs : sc ≤ 200) (hr : RightM l sc) (aa al : Option Addr) (na ca nl cl : Nat) (fa fl : Nat → Bool) (hA : Bl w aa na fa) (hL : Bl w al nl fl) :
    Calls Try.prog 8 #[v, .slice aa na ca, .slice al nl cl] w fun e w' => ∃ (x : Px) (hv : Value), e = .returned (.tuple #[x.val, hv, .bool true]) ∧ x.sc = sc ∧
      St w.heap.size w' x l (dsTo nl fl (zeroDv sc) x.n) (awTo na fa x.n) 0 (fun w' => OwnBl w.heap.size w' hv (hereTo na nl fa fl x.n)) ∧ Below w.heap.size w w' := by
  obtain ⟨a, gn, gc, rfl, hg, hs0, hs1⟩ := id h
  have hgn : l.length = gn := hg.2.1
  have b1 := boxed w (.cells #[.slice a gn gc, .int .i64 sc] 24)
  have b2 := boxed (w.alloc (.cells #[.slice a gn gc, .int .i64 sc] 24)) (.cells #[.slice none 0 0, .int .i64 0, .slice none 0 0, .slice none 0 0] 32)
  have bb := next b1 b2
  have c0 : ((w.alloc (.cells #[.slice a gn gc, .int .i64 sc] 24)).alloc (.cells #[.slice none 0 0, .int .i64 0, .slice none 0 0, .slice none 0 0] 32)).cell? ⟨w.heap.size, 0, none⟩ = some (.slice a gn gc) := by rw [b2.cell (p := ⟨w.heap.size, 0, none⟩) (by simp)]; simp
  have c1 : ((w.alloc (.cells #[.slice a gn gc, .int .i64 sc] 24)).alloc (.cells #[.slice none 0 0, .int .i64 0, .slice none 0 0, .slice none 0 0] 32)).cell? ⟨w.heap.size, 1, none⟩ = some (.int .i64 sc) := by rw [b2.cell (p := ⟨w.heap.size, 1, none⟩) (by simp)]; simp
  have hres : ((w.alloc (.cells #[.slice a gn gc, .int .i64 sc] 24)).alloc (.cells #[.slice none 0 0, .int .i64 0, .slice none 0 0, .slice none 0 0] 32)).heap[w.heap.size + 1]? = some (.cells #[.slice none 0 0, .int .i64 0, .slice none 0 0, .slice none 0 0] 32) := by
    have := heap_alloc_new (w.alloc (.cells #[.slice a gn gc, .int .i64 sc] 24)) (.cells #[.slice none 0 0, .int .i64 0, .slice none 0 0, .slice none 0 0] 32)
    simpa using this
  have hz2 : ((w.alloc (.cells #[.slice a gn gc, .int .i64 sc] 24)).alloc (.cells #[.slice none 0 0, .int .i64 0, .slice none 0 0, .slice none 0 0] 32)).heap.size = w.heap.size + 2 := by simp
  generalize hw2 : (w.alloc (.cells #[.slice a gn gc, .int .i64 sc] 24)).alloc (.cells #[.slice none 0 0, .int .i64 0, .slice none 0 0, .slice none 0 0] 32) = w2 at b2 bb c0 c1 hres hz2
  have HW2 := Lib.hid hw2
  have HNE := Lib.hid (new8_ok l sc _ w2 (h.below bb) hr 0)
  have HAA := Lib.hid (hA.below bb)
  have HLL := Lib.hid (hL.below bb)
  have HBB := Lib.hid bb
  have HRES := Lib.hid hres
  have hna := hA.1
  have hnl := hL.1
  unfold maxLen at hna hnl
  clear h hg b1 b2 bb hr hw2 hres hA hL
  go_enter Try.func8, Try.ntmps8
  go_wp2_with (first | (rw [HW2.out]; fail))
  rw [HW2.out]
  go_wp2_with fail
  refine HNE.out.mono ?_
  rintro e w3 ⟨x, rfl, rfl, h3, b3⟩
  have hbx := boxed w3 (.cells #[.slice x.ga x.gn x.gc, .int .i64 x.sc, .slice (some ⟨x.lb, 0, none⟩) x.n x.n, .slice (some ⟨x.ab, 0, none⟩) x.n x.n] 32)
  have HS4 := Lib.hid (h3.add hbx (BoxX.new w3 x _ (Nat.le_refl _) 32))
  have HB4 := Lib.hid (next b3 hbx)
  obtain ⟨_, h32⟩ := h3.right.1.devs h3.right.2
  obtain ⟨_, f0, f1, f2, f3⟩ := HS4.out.out
  clear h3 b3 hbx c0 c1
  unfold Px.val
  have hDG : DGood x.sc 0 (zeroDv x.sc) := by
    have h24 := HS4.out.right.1.s0
    refine ⟨rfl, ?_, Nat.zero_le _⟩
    show ((List.replicate (newDv x.sc.toNat).med.length (fullS 0)).length : Int) = x.sc
    rw [List.length_replicate]
    show ((List.replicate x.sc.toNat (fullS 0)).length : Int) = x.sc
    rw [List.length_replicate]
    omega
  have HDG := Lib.hid hDG
  have HNR := Lib.hid HS4.out.right
  have HRX : Hid (∀ V, Below w2.heap.size w2 V → V.heap[w.heap.size + 1]? = some (.cells #[.slice none 0 0, .int .i64 0, .slice none 0 0, .slice none 0 0] 32)) := Lib.hid fun V hb => (hb.block _ (by omega)).trans HRES.out
  clear hDG HRES
  go_wp2_with fail
  generalize w3.alloc (.cells #[.slice x.ga x.gn x.gc, .int .i64 x.sc, .slice (some ⟨x.lb, 0, none⟩) x.n x.n, .slice (some ⟨x.ab, 0, none⟩) x.n x.n] 32) = w4 at *
  generalize w3.heap.size = bx at *
  clear f0 f1 f2 f3
  go_loopw [11, 12] (fun hv i wr => ∃ j : Nat, j ≤ x.n ∧ i = .int .i64 j ∧ OwnBl w2.heap.size wr hv (hereTo na nl fa fl j) ∧ StX (fun k => hv.ownBlock = some k) w2.heap.size wr x l (dsTo nl fl (zeroDv x.sc) j) (awTo na fa j) 0 (fun w' => True ∧ BoxX x bx w') ∧ Below w2.heap.size w2 wr) (fun _ i _ => x.n - (intOf i).toNat)
  case atStart =>
    refine ⟨0, Nat.zero_le _, rfl, World.ownsRow_nil _ _ _ _, ?_, HB4.out⟩
    rw [dsTo_zero, awTo_zero]
    exact HS4.out.sub (fun k hk => by simp [Value.ownBlock] at hk)
  case round =>
    obtain ⟨j, hj, rfl, ho, hst, hbw⟩ := hrel
    have HO := Lib.hid ho
    have HS := Lib.hid hst
    have HB := Lib.hid hbw
    clear ho hst hbw
    obtain ⟨_, x0, x1, x2, x3⟩ := HS.out.out
    by_cases hlt : j < x.n
    · have hawj := HS.out.away hlt
      have a0 := hawj.1
      have a1 := hawj.2
      clear hawj
      have HM := Lib.hid ((HS.out.below (Below.refl _ wr).drew).mark hlt (saysB na fa j))
      have q1 : (0 : Int) ≤ (j : Int) := by omega
      have q2 : (j : Int) < (x.n : Int) := by omega
      go_upto_region 10 with (fail)
      go_cut [12] (fun s12 wc => s12 = .int .i64 (j : Int) ∧ wc = wr.drew.setCell ⟨x.ab, j, none⟩ (.bool (saysB na fa j)))
      case first =>
        by_cases hja : j < na
        · obtain ⟨gA, oA, rfl, hgA, hcA⟩ := HAA.out.2 j hja
          have hcA' := (HB.out.cell (p := ⟨gA, oA + j, none⟩) hgA).trans hcA
          have HE : Hid (saysB na fa j = fa j) := Lib.hid (by simp [saysB, hja])
          have d1 : decide ((j : Int) < (na : Int)) = true := by simpa using hja
          have q3 : (j : Int) < (na : Int) := by omega
          clear hcA
          refine wp_region_still_tail 14 (by kernel_rfl) (by kernel_rfl) ?_
          simp only [List.take_succ_cons, List.take_zero, List.drop_succ_cons, List.drop_zero]
          repeat still_step
          refine wpStill_nil ?_
          go_wp2_with fail
          go_meet
          exact ⟨rfl, by rw [HE.out]; rfl⟩
        · have HE : Hid (saysB na fa j = false) := Lib.hid (by simp [saysB, hja])
          have d1 : decide ((j : Int) < (na : Int)) = false := by simpa using hja
          refine wp_region_still_tail 14 (by kernel_rfl) (by kernel_rfl) ?_
          simp only [List.take_succ_cons, List.take_zero, List.drop_succ_cons, List.drop_zero]
          repeat still_step
          refine wpStill_nil ?_
          go_wp2_with fail
          go_meet
          exact ⟨rfl, by rw [HE.out]; rfl⟩
      case rest =>
        obtain ⟨rfl, hwc⟩ := hcut
        have HM1 : Hid (StX (fun k => u11.ownBlock = some k) w2.heap.size wc x l (dsTo nl fl (zeroDv x.sc) j) (awTo na fa (j + 1)) 0 (fun w' => True ∧ BoxX x bx w')) := Lib.hid (by rw [hwc, ← awTo_set]; exact HM.out.1)
        have HB1 : Hid (Below w2.heap.size w2 wc) := Lib.hid (by rw [hwc]; exact HB.out.drew.trans HM.out.2.1)
        have HO1 : Hid (OwnBl w2.heap.size wc u11 (hereTo na nl fa fl j)) := Lib.hid (by rw [hwc]; exact (HO.out.below (Below.refl _ wr).drew).same fun k hk => HM.out.2.2 k hk)
        clear hwc x0 x1 x2 x3 a0 a1 HM HS HO HB
        obtain ⟨_, x0, x1, x2, x3⟩ := HM1.out.out
        have a0 := (HM1.out.away hlt).1
        rw [awTo_at] at a0
        obtain ⟨V, hV⟩ : ∃ V, saysB na fa j = V := ⟨_, rfl⟩
        have HV := Lib.hid hV
        rw [hV] at a0
        clear hV
        by_cases hjl : j < nl
        · obtain ⟨gL, oL, rfl, hgL, hcL⟩ := HLL.out.2 j hjl
          have hcL' := (HB1.out.cell (p := ⟨gL, oL + j, none⟩) hgL).trans hcL
          have d1 : decide ((j : Int) < (nl : Int)) = true := by simpa using hjl
          have q3 : (j : Int) < (nl : Int) := by omega
          cases hfl : fl j with
          | true =>
            have HLT : Hid (saysB nl fl j = true) := Lib.hid (by simp [saysB, hjl, hfl])
            rw [hfl] at hcL hcL'
            obtain ⟨b, f, cb, hd, hdid⟩ := HM1.out.did hlt
            rw [dsTo_at] at hd
            have HLO := Lib.hid (lose_any b (zeroDv x.sc) f wc hd)
            have HDID := Lib.hid hdid
            clear hd hdid hfl
            go_wp2_with fail
            refine HLO.out.mono ?_
            rintro e w5 ⟨rfl, hd5⟩
            obtain ⟨h5, b5, _, hX5⟩ := HDID.out _ w5 0 hd5 ⟨rfl, HDG.out.len, Nat.zero_le _⟩ (Nat.le_refl _)
            have HS5 : Hid (StX (fun k => u11.ownBlock = some k) w2.heap.size w5 x l (dsTo nl fl (zeroDv x.sc) (j + 1)) (awTo na fa (j + 1)) 0 (fun w' => True ∧ BoxX x bx w')) := Lib.hid (by rw [← dsTo_yes _ _ _ _ HLT.out]; exact h5)
            have HB5 := Lib.hid (HB1.out.trans b5)
            have HO5 := Lib.hid (HO1.out.same hX5)
            have hcL5 := (HB5.out.cell (p := ⟨gL, oL + j, none⟩) hgL).trans hcL
            clear h5 b5 hX5 hd5 hcL' hcL x0 x1 x2 x3 a0 HLO HDID HM1 HB1 HO1 cb
            obtain ⟨_, x0, x1, x2, x3⟩ := HS5.out.out
            have a0 := (HS5.out.away hlt).1
            rw [awTo_at, HV.out] at a0
            cases V with
            | true =>
              go_wp2_with (at_builtin; refine wpList_append_bool _ rfl _ _ rfl w2.heap.size u11 (hereTo na nl fa fl j) false _ _ rfl rfl (HO5.out.below (boxed _ _)) (by simp) (by simp; have := HB5.out.size; omega) (by rw [hereTo_len]; omega) ?_; intro v9 w9 hO9 hg9 hv9)
              have tX : Turn (fun k => u11.ownBlock = some k) (w5.alloc (.cells #[.bool false] 4)) w9 := grown_turn hg9 fun k hk => hk
              have HS9 : Hid (StX (fun k => v9.ownBlock = some k) w2.heap.size w9 x l (dsTo nl fl (zeroDv x.sc) (j + 1)) (awTo na fa (j + 1)) 0 (fun w' => True ∧ BoxX x bx w')) := Lib.hid ((HS5.out.below (boxed _ _)).turnX tX (fun k hk => by rcases hv9 with e | e; exact .inl (by rw [← e]; exact hk); exact .inr (by rw [e] at hk; cases hk; exact Nat.le_refl _)) (fun k hk => (World.ownsRow.lt hO9 k hk).2) (by simp; have := HB5.out.size; omega))
              have HO9 : Hid (OwnBl w2.heap.size w9 v9 (hereTo na nl fa fl (j + 1))) := Lib.hid (by rw [hereTo_succ, HV.out, HLT.out]; exact hO9)
              have HB9 : Hid (Below w2.heap.size w2 w9) := Lib.hid ((HB5.out.trans ((boxed _ _).mono HB5.out.size)).trans (tX.below (fun k hk => (World.ownsRow.lt HO5.out k hk).1) (by simp; have := HB5.out.size; omega)))
              clear hO9 hg9 hv9 tX
              go_wp2
              go_roundw
              case rel => exact ⟨j + 1, by omega, by go_num, HO9.out, HS9.out, HB9.out⟩
              case measure => simp [intOf]; omega
            | false =>
              go_wp2_with (at_builtin; refine wpList_append_bool _ rfl _ _ rfl w2.heap.size u11 (hereTo na nl fa fl j) false _ _ rfl rfl (HO5.out.below (boxed _ _)) (by simp) (by simp; have := HB5.out.size; omega) (by rw [hereTo_len]; omega) ?_; intro v9 w9 hO9 hg9 hv9)
              have tX : Turn (fun k => u11.ownBlock = some k) (w5.alloc (.cells #[.bool false] 4)) w9 := grown_turn hg9 fun k hk => hk
              have HS9 : Hid (StX (fun k => v9.ownBlock = some k) w2.heap.size w9 x l (dsTo nl fl (zeroDv x.sc) (j + 1)) (awTo na fa (j + 1)) 0 (fun w' => True ∧ BoxX x bx w')) := Lib.hid ((HS5.out.below (boxed _ _)).turnX tX (fun k hk => by rcases hv9 with e | e; exact .inl (by rw [← e]; exact hk); exact .inr (by rw [e] at hk; cases hk; exact Nat.le_refl _)) (fun k hk => (World.ownsRow.lt hO9 k hk).2) (by simp; have := HB5.out.size; omega))
              have HO9 : Hid (OwnBl w2.heap.size w9 v9 (hereTo na nl fa fl (j + 1))) := Lib.hid (by rw [hereTo_succ, HV.out, HLT.out]; exact hO9)
              have HB9 : Hid (Below w2.heap.size w2 w9) := Lib.hid ((HB5.out.trans ((boxed _ _).mono HB5.out.size)).trans (tX.below (fun k hk => (World.ownsRow.lt HO5.out k hk).1) (by simp; have := HB5.out.size; omega)))
              clear hO9 hg9 hv9 tX
              go_wp2
              go_roundw
              case rel => exact ⟨j + 1, by omega, by go_num, HO9.out, HS9.out, HB9.out⟩
              case measure => simp [intOf]; omega
          | false =>
            have HLF : Hid (saysB nl fl j = false) := Lib.hid (by simp [saysB, hfl])
            rw [hfl] at hcL hcL'
            have HS5 : Hid (StX (fun k => u11.ownBlock = some k) w2.heap.size wc x l (dsTo nl fl (zeroDv x.sc) (j + 1)) (awTo na fa (j + 1)) 0 (fun w' => True ∧ BoxX x bx w')) := Lib.hid (by rw [← dsTo_no _ _ _ _ HLF.out]; exact HM1.out)
            clear hcL hfl
            cases V with
            | true =>
              go_wp2_with (at_builtin; refine wpList_append_bool _ rfl _ _ rfl w2.heap.size u11 (hereTo na nl fa fl j) false _ _ rfl rfl (HO1.out.below (boxed _ _)) (by simp) (by simp; have := HB1.out.size; omega) (by rw [hereTo_len]; omega) ?_; intro v9 w9 hO9 hg9 hv9)
              have tX : Turn (fun k => u11.ownBlock = some k) (wc.alloc (.cells #[.bool false] 4)) w9 := grown_turn hg9 fun k hk => hk
              have HS9 : Hid (StX (fun k => v9.ownBlock = some k) w2.heap.size w9 x l (dsTo nl fl (zeroDv x.sc) (j + 1)) (awTo na fa (j + 1)) 0 (fun w' => True ∧ BoxX x bx w')) := Lib.hid ((HS5.out.below (boxed _ _)).turnX tX (fun k hk => by rcases hv9 with e | e; exact .inl (by rw [← e]; exact hk); exact .inr (by rw [e] at hk; cases hk; exact Nat.le_refl _)) (fun k hk => (World.ownsRow.lt hO9 k hk).2) (by simp; have := HB1.out.size; omega))
              have HO9 : Hid (OwnBl w2.heap.size w9 v9 (hereTo na nl fa fl (j + 1))) := Lib.hid (by rw [hereTo_succ, HV.out, HLF.out]; exact hO9)
              have HB9 : Hid (Below w2.heap.size w2 w9) := Lib.hid ((HB1.out.trans ((boxed _ _).mono HB1.out.size)).trans (tX.below (fun k hk => (World.ownsRow.lt HO1.out k hk).1) (by simp; have := HB1.out.size; omega)))
              clear hO9 hg9 hv9 tX
              go_wp2
              go_roundw
              case rel => exact ⟨j + 1, by omega, by go_num, HO9.out, HS9.out, HB9.out⟩
              case measure => simp [intOf]; omega
            | false =>
              go_wp2_with (at_builtin; refine wpList_append_bool _ rfl _ _ rfl w2.heap.size u11 (hereTo na nl fa fl j) true _ _ rfl rfl (HO1.out.below (boxed _ _)) (by simp) (by simp; have := HB1.out.size; omega) (by rw [hereTo_len]; omega) ?_; intro v9 w9 hO9 hg9 hv9)
              have tX : Turn (fun k => u11.ownBlock = some k) (wc.alloc (.cells #[.bool true] 4)) w9 := grown_turn hg9 fun k hk => hk
              have HS9 : Hid (StX (fun k => v9.ownBlock = some k) w2.heap.size w9 x l (dsTo nl fl (zeroDv x.sc) (j + 1)) (awTo na fa (j + 1)) 0 (fun w' => True ∧ BoxX x bx w')) := Lib.hid ((HS5.out.below (boxed _ _)).turnX tX (fun k hk => by rcases hv9 with e | e; exact .inl (by rw [← e]; exact hk); exact .inr (by rw [e] at hk; cases hk; exact Nat.le_refl _)) (fun k hk => (World.ownsRow.lt hO9 k hk).2) (by simp; have := HB1.out.size; omega))
              have HO9 : Hid (OwnBl w2.heap.size w9 v9 (hereTo na nl fa fl (j + 1))) := Lib.hid (by rw [hereTo_succ, HV.out, HLF.out]; exact hO9)
              have HB9 : Hid (Below w2.heap.size w2 w9) := Lib.hid ((HB1.out.trans ((boxed _ _).mono HB1.out.size)).trans (tX.below (fun k hk => (World.ownsRow.lt HO1.out k hk).1) (by simp; have := HB1.out.size; omega)))
              clear hO9 hg9 hv9 tX
              go_wp2
              go_roundw
              case rel => exact ⟨j + 1, by omega, by go_num, HO9.out, HS9.out, HB9.out⟩
              case measure => simp [intOf]; omega
        · have HLF : Hid (saysB nl fl j = false) := Lib.hid (by simp [saysB, hjl])
          have d1 : decide ((j : Int) < (nl : Int)) = false := by simpa using hjl
          have HS5 : Hid (StX (fun k => u11.ownBlock = some k) w2.heap.size wc x l (dsTo nl fl (zeroDv x.sc) (j + 1)) (awTo na fa (j + 1)) 0 (fun w' => True ∧ BoxX x bx w')) := Lib.hid (by rw [← dsTo_no _ _ _ _ HLF.out]; exact HM1.out)
          cases V with
          | true =>
            go_wp2_with (at_builtin; refine wpList_append_bool _ rfl _ _ rfl w2.heap.size u11 (hereTo na nl fa fl j) false _ _ rfl rfl (HO1.out.below (boxed _ _)) (by simp) (by simp; have := HB1.out.size; omega) (by rw [hereTo_len]; omega) ?_; intro v9 w9 hO9 hg9 hv9)
            have tX : Turn (fun k => u11.ownBlock = some k) (wc.alloc (.cells #[.bool false] 4)) w9 := grown_turn hg9 fun k hk => hk
            have HS9 : Hid (StX (fun k => v9.ownBlock = some k) w2.heap.size w9 x l (dsTo nl fl (zeroDv x.sc) (j + 1)) (awTo na fa (j + 1)) 0 (fun w' => True ∧ BoxX x bx w')) := Lib.hid ((HS5.out.below (boxed _ _)).turnX tX (fun k hk => by rcases hv9 with e | e; exact .inl (by rw [← e]; exact hk); exact .inr (by rw [e] at hk; cases hk; exact Nat.le_refl _)) (fun k hk => (World.ownsRow.lt hO9 k hk).2) (by simp; have := HB1.out.size; omega))
            have HO9 : Hid (OwnBl w2.heap.size w9 v9 (hereTo na nl fa fl (j + 1))) := Lib.hid (by rw [hereTo_succ, HV.out, HLF.out]; exact hO9)
            have HB9 : Hid (Below w2.heap.size w2 w9) := Lib.hid ((HB1.out.trans ((boxed _ _).mono HB1.out.size)).trans (tX.below (fun k hk => (World.ownsRow.lt HO1.out k hk).1) (by simp; have := HB1.out.size; omega)))
            clear hO9 hg9 hv9 tX
            go_wp2
            go_roundw
            case rel => exact ⟨j + 1, by omega, by go_num, HO9.out, HS9.out, HB9.out⟩
            case measure => simp [intOf]; omega
          | false =>
            go_wp2_with (at_builtin; refine wpList_append_bool _ rfl _ _ rfl w2.heap.size u11 (hereTo na nl fa fl j) true _ _ rfl rfl (HO1.out.below (boxed _ _)) (by simp) (by simp; have := HB1.out.size; omega) (by rw [hereTo_len]; omega) ?_; intro v9 w9 hO9 hg9 hv9)
            have tX : Turn (fun k => u11.ownBlock = some k) (wc.alloc (.cells #[.bool true] 4)) w9 := grown_turn hg9 fun k hk => hk
            have HS9 : Hid (StX (fun k => v9.ownBlock = some k) w2.heap.size w9 x l (dsTo nl fl (zeroDv x.sc) (j + 1)) (awTo na fa (j + 1)) 0 (fun w' => True ∧ BoxX x bx w')) := Lib.hid ((HS5.out.below (boxed _ _)).turnX tX (fun k hk => by rcases hv9 with e | e; exact .inl (by rw [← e]; exact hk); exact .inr (by rw [e] at hk; cases hk; exact Nat.le_refl _)) (fun k hk => (World.ownsRow.lt hO9 k hk).2) (by simp; have := HB1.out.size; omega))
            have HO9 : Hid (OwnBl w2.heap.size w9 v9 (hereTo na nl fa fl (j + 1))) := Lib.hid (by rw [hereTo_succ, HV.out, HLF.out]; exact hO9)
            have HB9 : Hid (Below w2.heap.size w2 w9) := Lib.hid ((HB1.out.trans ((boxed _ _).mono HB1.out.size)).trans (tX.below (fun k hk => (World.ownsRow.lt HO1.out k hk).1) (by simp; have := HB1.out.size; omega)))
            clear hO9 hg9 hv9 tX
            go_wp2
            go_roundw
            case rel => exact ⟨j + 1, by omega, by go_num, HO9.out, HS9.out, HB9.out⟩
            case measure => simp [intOf]; omega
    · obtain rfl : j = x.n := by omega
      have hre := HRX.out wr HB.out
      have r0 : wr.cell? ⟨w.heap.size + 1, 0, none⟩ = some (.slice none 0 0) := by simp [World.cell?, hre]
      have r1 : wr.cell? ⟨w.heap.size + 1, 1, none⟩ = some (.int .i64 0) := by simp [World.cell?, hre]
      have r2 : wr.cell? ⟨w.heap.size + 1, 2, none⟩ = some (.slice none 0 0) := by simp [World.cell?, hre]
      have r3 : wr.cell? ⟨w.heap.size + 1, 3, none⟩ = some (.slice none 0 0) := by simp [World.cell?, hre]
      have z0 : wr.frozen? ⟨w.heap.size + 1, 0, none⟩ = false := by simp [World.frozen?, hre]
      have z1 : wr.frozen? ⟨w.heap.size + 1, 1, none⟩ = false := by simp [World.frozen?, hre]
      have z2 : wr.frozen? ⟨w.heap.size + 1, 2, none⟩ = false := by simp [World.frozen?, hre]
      have z3 : wr.frozen? ⟨w.heap.size + 1, 3, none⟩ = false := by simp [World.frozen?, hre]
      have HW := Lib.hid (sets4 (.slice x.ga x.gn x.gc) (.int .i64 x.sc) (.slice (some ⟨x.lb, 0, none⟩) x.n x.n) (.slice (some ⟨x.ab, 0, none⟩) x.n x.n) hre)
      have HT := Lib.hid (turn4 wr (w.heap.size + 1) (.slice x.ga x.gn x.gc) (.int .i64 x.sc) (.slice (some ⟨x.lb, 0, none⟩) x.n x.n) (.slice (some ⟨x.ab, 0, none⟩) x.n x.n))
      clear hre
      go_wp2_with fail
      generalize (((wr.setCell ⟨w.heap.size + 1, 0, none⟩ (.slice x.ga x.gn x.gc)).setCell ⟨w.heap.size + 1, 1, none⟩ (.int .i64 x.sc)).setCell ⟨w.heap.size + 1, 2, none⟩ (.slice (some ⟨x.lb, 0, none⟩) x.n x.n)).setCell ⟨w.heap.size + 1, 3, none⟩ (.slice (some ⟨x.ab, 0, none⟩) x.n x.n) = W at HW HT ⊢
      have hW := HW.out
      have s0 : W.cell? ⟨w.heap.size + 1, 0, none⟩ = some (.slice x.ga x.gn x.gc) := by simp [World.cell?, hW]
      have s1 : W.cell? ⟨w.heap.size + 1, 1, none⟩ = some (.int .i64 x.sc) := by simp [World.cell?, hW]
      have s2 : W.cell? ⟨w.heap.size + 1, 2, none⟩ = some (.slice (some ⟨x.lb, 0, none⟩) x.n x.n) := by simp [World.cell?, hW]
      have s3 : W.cell? ⟨w.heap.size + 1, 3, none⟩ = some (.slice (some ⟨x.ab, 0, none⟩) x.n x.n) := by simp [World.cell?, hW]
      clear hW
      refine bodyPost_ret (v := .tuple #[.agg #[.slice x.ga x.gn x.gc, .int .i64 x.sc, .slice (some ⟨x.lb, 0, none⟩) x.n x.n, .slice (some ⟨x.ab, 0, none⟩) x.n x.n], u11, .bool true]) (by simp [results, Try.results8, go_sem, s0, s1, s2, s3]) rfl ⟨x, u11, rfl, rfl, ?_, ?_⟩
      · have hzs : wr.heap.size ≤ W.heap.size := HT.out.size
        have hS := HS.out.old (w' := W) (HT.out.mono fun k hk => by omega)
        have hO : OwnBl w.heap.size W u11 (hereTo na nl fa fl x.n) := by
          have h1 : OwnBl w2.heap.size W u11 (hereTo na nl fa fl x.n) := HO.out.same fun k hk => HT.out.block k (World.ownsRow.lt HO.out k hk).2 fun e => by have := (World.ownsRow.lt HO.out k hk).1; omega
          refine ⟨h1.1, ?_⟩
          rcases h1.2 with hn | ⟨g, cap, cur, e, hB, rest⟩
          · exact .inl hn
          · exact .inr ⟨g, cap, cur, e, by omega, rest⟩
        have hR := hS.release (Q := fun w' => OwnBl w.heap.size w' u11 (hereTo na nl fa fl x.n)) fun w' _ hk => hO.same fun k hb => hk k hb
        exact (hR.mono fun w' h => h.2).lower (by omega)
      · exact HBB.out.trans (((HB.out.mono (by omega)).trans (HT.out.below (B := w.heap.size) (fun k hk => by omega) (by have := HB.out.size; omega))))
end Go.Proofs.Ytlhnmcopioeboaa

/- polderlaw08.awake. -/
namespace Go.Proofs.Ytlhnmcopioeboaa
set_option maxRecDepth 100000
open Go.RowKit Go.Maps M

theorem ex8_right : RightM [(0, 2)] 24 := rightM_iff.1 (by decide)
theorem ex8_devs : devsL [(0, 2)] 24 = 2 := by decide
theorem ex8_blk : Blk [(0, 2)] 24 0 0 1 := by
  obtain ⟨k, t, z, h1, h2, h3, h⟩ := mayL_iff.1 (show mayL [(0, 2)] 24 0 0 1 = true by decide)
  have e1 : k = 0 := by omega
  have e2 : t = 0 := by omega
  have e3 : z = 1 := by omega
  subst e1 e2 e3
  exact h
theorem ex8_cols : colsOf [(0, 2)] 0 0 1 = [⟨0, 16, false, 0⟩, ⟨1, 16, false, 0⟩] := by rfl
theorem ex8_fail (D : Dv) (hD : D.lost = false) : failN (fun _ => D) (upd (fun _ => false) 1 true) (colsOf [(0, 2)] 0 0 1) = 1 := by
  rw [ex8_cols]
  have h0 : hereB (fun _ => D) (upd (fun _ => false) 1 true) 0 = true := by simp [hereB, upd, hD]
  have h1 : hereB (fun _ => D) (upd (fun _ => false) 1 true) 1 = false := by simp [hereB, upd]
  have d0 : devN [⟨0, 16, false, 0⟩, ⟨1, 16, false, 0⟩] 0 = 0 := by decide
  have d1 : devN [⟨0, 16, false, 0⟩, ⟨1, 16, false, 0⟩] 1 = 1 := by decide
  show (faTo _ _ 2).length = 1
  rw [faTo, faTo, faTo, d0, d1, h0, h1]
  rfl

set_option maxHeartbeats 4000000 in
theorem awake8 (w : World) : Calls Try.prog 7 #[] w fun e w' => e = .returned (.bool true) ∧ Below w.heap.size w w' := by
  have hM : Meas (w.alloc (.cells #[.int .i64 0, .int .i64 2] 53)) (.agg #[.slice (some ⟨w.heap.size, 0, none⟩) 1 1, .int .i64 24]) [(0, 2)] 24 := by
    refine ⟨_, _, _, rfl, ⟨by decide, rfl, fun i hi => ?_⟩, by omega, by omega⟩
    obtain rfl : i = 0 := by simpa using hi
    exact ⟨_, _, rfl, ⟨by simp, by simp, by simp, by simp, by simp, by simp, by simp⟩⟩
  have HN := Lib.hid (new8_ok [(0, 2)] 24 _ _ hM ex8_right 0)
  have HB0 := Lib.hid (boxed w (.cells #[.int .i64 0, .int .i64 2] 53))
  clear hM
  go_enter Try.func7, Try.ntmps7
  go_wp2_with fail
  refine HN.out.mono ?_
  rintro e w3 ⟨x, rfl, hsc, h3, b3⟩
  have hxn : x.n = 2 := by
    have := h3.right.2
    rw [hsc, ex8_devs] at this
    omega
  have HSC := Lib.hid hsc
  have hbx := boxed w3 (.cells #[.slice x.ga x.gn x.gc, .int .i64 x.sc, .slice (some ⟨x.lb, 0, none⟩) x.n x.n, .slice (some ⟨x.ab, 0, none⟩) x.n x.n] 32)
  have HS4 := Lib.hid (h3.add hbx (BoxX.new w3 x _ (Nat.le_refl _) 32))
  have HB4 := Lib.hid (next (next HB0.out b3) hbx)
  obtain ⟨_, f0, f1, f2, f3⟩ := HS4.out.out
  have ha := HS4.out.away (i := 1) (by omega)
  have a0 := ha.1
  have a1 := ha.2
  have HM := Lib.hid (HS4.out.mark (i := 1) (by omega) true)
  have hne : ((x.n : Int) == 2) = true := by rw [hxn]; rfl
  have hnn : ((x.n : Int) != 2) = false := by rw [hxn]; rfl
  have h1n : (1 : Int) < (x.n : Int) := by rw [hxn]; decide
  have h1n' : 1 < x.n := by omega
  have HXN := Lib.hid hxn
  clear h3 b3 hbx ha HB0 hsc hxn
  unfold Px.val
  have hD : ((newDv (Int.toNat 24)).fresh 0).lost = false := rfl
  have HF := Lib.hid (ex8_fail _ hD)
  clear hD
  go_wp2_with fail
  have HB5 := Lib.hid ((HB4.out.trans (HM.out.2.1.mono (by simp))))
  clear f0 f1 f2 f3 a0 a1 HS4 HB4
  generalize (w3.alloc (.cells #[.slice x.ga x.gn x.gc, .int .i64 x.sc, .slice (some ⟨x.lb, 0, none⟩) x.n x.n, .slice (some ⟨x.ab, 0, none⟩) x.n x.n] 32)).setCell ⟨x.ab, 1, none⟩ (.bool true) = w5 at *
  have HS5 := Lib.hid HM.out.1
  clear HM
  have hBl : Blk [(0, 2)] x.sc 0 0 1 := by rw [HSC.out]; exact ex8_blk
  have b5 : Below w5.heap.size w5 w5.drew := (Below.refl _ w5).drew
  have hmk : ∀ V, (Instr.makeSlice 67 (.int .i64 64) (.int .i64 64)).run Try.prog V = .ok (.slice (some ⟨V.heap.size, 0, none⟩) 64 64) (zerosW V 64) := fun V => make_zeros V 64 (by decide)
  have hcv : ∀ V : World, (convert 67 9 (.slice (some ⟨V.heap.size, 0, none⟩) 64 64)).run Try.prog (zerosW V 64) = .ok (.string (zeroB 64)) (zerosW V 64) := fun V => conv_zeros V 64
  have hcv5 : (convert 67 9 (.slice (some ⟨w5.heap.size, 0, none⟩) 64 64)).run Try.prog (zerosW w5.drew 64) = .ok (.string (zeroB 64)) (zerosW w5.drew 64) := hcv w5.drew
  clear hcv
  have b6 : Below w5.heap.size w5 (zerosW w5.drew 64) := next b5 (zerosW_below _ 64)
  have hs : (zeroB 64).size = 1 * 64 := by rw [zeroB_size]
  have HW := Lib.hid (write8_ok (HS5.out.below b6) 0 0 1 hBl (zeroB 64) (by omega) hs (hBl.puts hs HS5.out.right.2) (by omega))
  rw [HF.out] at HW
  have he : errN (([(0, 2)] : List (Int × Int))[0]'hBl.hk) 1 = 0 := by rfl
  rw [he] at HW
  unfold Px.val at HW
  generalize zeroB 64 = Z at *
  obtain ⟨_, x0, x1, x2, x3⟩ := HS5.out.out
  obtain ⟨_, y0, y1, y2, y3⟩ := (HS5.out.below b6).out
  generalize w3.heap.size = bx at *
  go_region_with (first | (go_at_call 9; refine HW.out.mono ?_; rintro e w7 ⟨rfl, h7, b7⟩))
  all_goals
    go_wp2
    go_ret
    exact ⟨rfl, HB5.out.trans ((b6.mono HB5.out.size).trans (b7.mono (by simp)))⟩
end Go.Proofs.Ytlhnmcopioeboaa

/- The document's answers: Right, Takes, Bytes (polderref05). -/
namespace Go.Proofs.Ytlhnmcopioeboaa
set_option maxRecDepth 100000
open Go.RowKit

theorem Held.at2 {w0 w : World} {b : Nat} {g o : Nat} {n c : Nat} {s : Int} {l : List (Int × Int)} (h : Held w0 w b (some ⟨g, o, none⟩) n c s l) {k : Nat} (hk : k < l.length) {x : Int × Int} (hx : l[k] = x) :
    w.cell? ⟨g, o + k * 2, none⟩ = some (.int .i64 x.1) ∧ w.cell? ⟨g, o + k * 2 + 1, none⟩ = some (.int .i64 x.2) := by
  obtain ⟨g', o', ha, _, h1, h2⟩ := h.at_ hk hx
  cases ha
  exact ⟨h1, h2⟩
theorem Held.bounds {w0 w : World} {b : Nat} {a : Option Addr} {n c : Nat} {s : Int} {l : List (Int × Int)} (h : Held w0 w b a n c s l) {k : Nat} (hk : k < l.length) {x : Int × Int} (hx : l[k] = x) :
    -9223372036854775808 ≤ x.1 ∧ x.1 ≤ 9223372036854775807 ∧ -9223372036854775808 ≤ x.2 ∧ x.2 ≤ 9223372036854775807 := by
  obtain ⟨a', n', c', hv, hg, _⟩ := h.m
  cases hv
  obtain ⟨g, o, ha, hG⟩ := hg.2.2 k hk
  subst hx
  exact ⟨hG.k0, hG.k1, hG.w0, hG.w1⟩

set_option maxHeartbeats 2000000 in
theorem refRight_any (l : List (Int × Int)) (s : Int) (v : Value) (w : World) (h : Meas w v l s) (b : Bool) (hb : rightL l s = b) :
    Calls Try.prog 13 #[v] w fun e w' => e = .returned (.bool b) ∧ Below w.heap.size w w' := by
  obtain ⟨a, n, c, rfl, hg, s0, s1⟩ := id h
  have hm := hg.1
  have hn := hg.2.1
  unfold maxLen at hm
  have K := Lib.hid (Held.start h)
  clear hg h
  by_cases h0 : n < 1
  · obtain rfl : false = b := by rw [← hb]; simp [rightL, hn]; omega
    obtain rfl : n = 0 := by omega
    go_enter Try.func13, Try.ntmps13
    go_wp2
    go_ret
    exact ⟨rfl, boxed _ _⟩
  have h0' : decide ((n : Int) < 1) = false := by simp; omega
  by_cases h4 : 4 < n
  · obtain rfl : false = b := by rw [← hb, rightL, hn]; simp; omega
    go_enter Try.func13, Try.ntmps13
    go_wp2
    go_ret
    exact ⟨rfl, boxed _ _⟩
  by_cases h24 : s < 24
  · obtain rfl : false = b := by rw [← hb, rightL, hn]; simp; omega
    go_enter Try.func13, Try.ntmps13
    go_wp2
    go_ret
    exact ⟨rfl, boxed _ _⟩
  by_cases h40 : 4096 < s
  · obtain rfl : false = b := by rw [← hb, rightL, hn]; simp; omega
    go_enter Try.func13, Try.ntmps13
    go_wp2
    go_ret
    exact ⟨rfl, boxed _ _⟩
  have hall : Hid (l.all okG = b) := Lib.hid (by
    rw [← hb, rightL, hn]
    simp [show 0 < n by omega, show n ≤ 4 by omega, show 24 ≤ s by omega, show s ≤ 4096 by omega])
  have HN := Lib.hid hn
  have q1 : decide (4 < n) = false := by simp; omega
  have q2 : decide (s < 24) = false := by simp; omega
  have q3 : decide (4096 < s) = false := by simp; omega
  clear hb hn
  go_enter Try.func13, Try.ntmps13
  go_wp2_with fail
  go_loopw [3] (fun i wr => ∃ k : Nat, k ≤ n ∧ i = .int .i64 (k : Int) ∧ Hid (okTo l k) ∧ Hid (Held w wr w.heap.size a n c s l)) (fun i _ => n - (intOf i).toNat)
  case atStart => exact ⟨0, Nat.zero_le _, rfl, Lib.hid fun j _ hj => absurd hj (Nat.not_lt_zero _), K⟩
  case round =>
    obtain ⟨k, hk, rfl, H, K1⟩ := hrel
    have c0 := K1.out.c0
    clear K
    by_cases hlt : k < n
    · have hkl : k < l.length := by rw [HN.out]; exact hlt
      obtain ⟨kk, u, hl⟩ : ∃ kk u, l[k] = (kk, u) := ⟨_, _, rfl⟩
      obtain ⟨p0, p1, q0, q1⟩ := K1.out.bounds hkl hl
      obtain ⟨g, o, rfl, hlt2, e0, e1⟩ := K1.out.at_ hkl hl
      dsimp only at e0 e1 p0 p1 q0 q1
      have K2 := Lib.hid (K1.out.next (boxed wr (.cells #[.int .i64 kk, .int .i64 u] 53)))
      have hno : Hid (okG (kk, u) = false → b = false) := Lib.hid (fun e => by rw [← hall.out]; exact okTo_not hkl (by rw [hl]; exact e))
      have hyes : Hid (okG (kk, u) = true → okTo l (k + 1)) := Lib.hid (fun e j hj hjk => by
        by_cases ej : j = k
        · subst ej; rw [hl]; exact e
        · exact H.out j hj (by omega))
      clear hl hkl
      by_cases k0 : kk = 0
      · subst k0
        by_cases w1 : u < 1
        · obtain rfl : b = false := hno.out (by simp [okG]; omega)
          go_wp2
          go_ret
          exact ⟨rfl, K2.out.below⟩
        by_cases w8 : 8 < u
        · obtain rfl : b = false := hno.out (by simp [okG]; omega)
          go_wp2
          go_ret
          exact ⟨rfl, K2.out.below⟩
        have Y := Lib.hid (hyes.out (by simp [okG]; omega))
        go_wp2
        go_roundw
        case rel => exact ⟨k + 1, by omega, by go_num, Y, K2⟩
        case measure => simp [intOf]; omega
      have k0' : (kk != 0) = true := by simp [k0]
      by_cases k1 : kk = 1
      · subst k1
        by_cases w1 : u < 3
        · obtain rfl : b = false := hno.out (by simp [okG]; omega)
          go_wp2
          go_ret
          exact ⟨rfl, K2.out.below⟩
        by_cases w8 : 8 < u
        · obtain rfl : b = false := hno.out (by simp [okG]; omega)
          go_wp2
          go_ret
          exact ⟨rfl, K2.out.below⟩
        have Y := Lib.hid (hyes.out (by simp [okG]; omega))
        go_wp2
        go_roundw
        case rel => exact ⟨k + 1, by omega, by go_num, Y, K2⟩
        case measure => simp [intOf]; omega
      have k1' : (kk != 1) = true := by simp [k1]
      obtain rfl : b = false := hno.out (by simp [okG, k0, k1])
      go_wp2
      go_ret
      exact ⟨rfl, K2.out.below⟩
    · have hb : true = b := by
        rw [← hall.out, okTo_all (by
          obtain rfl : k = n := by omega
          rw [HN.out]; exact H.out)]
      subst hb
      go_wp2
      go_ret
      exact ⟨rfl, K1.out.below⟩

set_option maxHeartbeats 2000000 in
theorem refTakes_any (kk u z : Int) (w : World) (hok : okG (kk, u) = true) (z1 : 1 ≤ z) (z4 : z ≤ 4) (x : Int) (hx : takesG (kk, u) z = x) :
    Calls Try.prog 41 #[.agg #[.int .i64 kk, .int .i64 u], .int .i64 z] w fun e w' => e = .returned (.int .i64 x) ∧ Below w.heap.size w w' := by
  rcases okG_cases hok with ⟨rfl, u1, u8⟩ | ⟨rfl, u1, u8⟩
  · have HX : Hid (z = x) := Lib.hid (by rw [← hx]; rfl)
    clear hx hok
    go_enter Try.func41, Try.ntmps41
    go_wp2
    go_ret
    exact ⟨by rw [← HX.out]; rfl, boxed _ _⟩
  · have hzz : z = 1 ∨ z = 2 ∨ z = 3 ∨ z = 4 := by omega
    have huu : u = 3 ∨ u = 4 ∨ u = 5 ∨ u = 6 ∨ u = 7 ∨ u = 8 := by omega
    have HX := Lib.hid hx
    clear hx hok z1 z4 u1 u8
    rcases hzz with rfl | rfl | rfl | rfl <;> rcases huu with rfl | rfl | rfl | rfl | rfl | rfl <;>
      (go_enter Try.func41, Try.ntmps41; go_wp2; go_rounds 3; go_ret; exact ⟨by rw [← HX.out]; rfl, boxed _ _⟩)

end Go.Proofs.Ytlhnmcopioeboaa

/- The document's First, May (polderref06). -/
namespace Go.Proofs.Ytlhnmcopioeboaa
set_option maxRecDepth 100000
open Go.RowKit

set_option maxHeartbeats 1000000 in
theorem refFirst_any (l : List (Int × Int)) (s : Int) (v : Value) (w : World) (h : Meas w v l s) (hr : RightM l s) (m : Nat) (hml : m ≤ l.length) (x : Int) (hx : aheadL l m = x) :
    Calls Try.prog 42 #[v, .int .i64 (m : Int)] w fun e w' => e = .returned (.int .i64 x) ∧ Below w.heap.size w w' := by
  obtain ⟨a, n, c, rfl, hg, s0, s1⟩ := h
  have HG := Lib.hid (hg.below (boxed w (.cells #[.slice a n c, .int .i64 s] 24)))
  have hmn : m ≤ n := by rw [← hg.2.1]; exact hml
  have hn4 : n ≤ 4 := by rw [← hg.2.1]; exact hr.few
  have HR := Lib.hid hr
  have HX := Lib.hid hx
  have HM := Lib.hid hml
  clear hg hr hx hml
  go_enter Try.func42, Try.ntmps42
  go_wp2_with fail
  go_loop [5, 6] (fun t i => ∃ (k : Nat) (y : Int), k ≤ m ∧ i = .int .i64 k ∧ t = .int .i64 y ∧ y = aheadL l k) (fun _ i => m - (intOf i).toNat)
  case atStart => exact ⟨0, 0, Nat.zero_le _, rfl, rfl, (aheadL_zero l).symm⟩
  case round =>
    obtain ⟨k, y, hk, rfl, rfl, hy⟩ := hrel
    by_cases hlt : k < m
    · obtain ⟨g, o, kk, d, rfl, hld, hG⟩ := HG.out.at_ k (by omega)
      obtain ⟨_, c0, c1, p0, p1, q0, q1⟩ := hG
      have hb := HR.out.bounds k (by have := HM.out; omega)
      have hb' := HR.out.bounds (k + 1) (by have := HM.out; omega)
      have hs : aheadL l (k + 1) = y + d := by
        obtain ⟨hk', e⟩ := hld
        rw [aheadL_succ l k hk', e, hy]
      have HS := Lib.hid hs
      have hy0 : 0 ≤ y ∧ y ≤ 40 := by omega
      have hd0 : 0 ≤ y + d ∧ y + d ≤ 40 := by omega
      clear hb hb' hs hy hld
      obtain ⟨y0, y1⟩ := hy0
      obtain ⟨z0, z1⟩ := hd0
      go_wp2
      go_round
      case rel => exact ⟨k + 1, y + d, by omega, by go_num, by go_num, HS.out.symm⟩
      case measure => simp [intOf]; omega
    · obtain rfl : k = m := by omega
      have HY := Lib.hid hy
      clear hy
      go_wp2
      go_ret
      exact ⟨by rw [← HX.out, ← HY.out]; rfl, boxed _ _⟩

theorem new_pair (U : World) (x y : Value) (ty : TypeId) : (U.alloc (.cells #[x, y] ty)).cell? ⟨U.heap.size, 0, none⟩ = some x ∧ (U.alloc (.cells #[x, y] ty)).cell? ⟨U.heap.size, 1, none⟩ = some y := by
  simp
set_option maxHeartbeats 2000000 in
theorem may_any (l : List (Int × Int)) (s : Int) (v : Value) (w : World) (h : Meas w v l s) (k t z : Int) (hk : I64 k) (ht : I64 t) (hz : I64 z) (b : Bool) (hb : mayL l s k t z = b) :
    Calls Try.prog 18 #[v, .agg #[.int .i64 k, .int .i64 t], .int .i64 z] w fun e w' => e = .returned (.bool b) ∧ Below w.heap.size w w' := by
  have K1 := h
  obtain ⟨a, n, c, rfl, hg⟩ := id h
  have hn := hg.1.2.1
  have hm := hg.1.1
  unfold maxLen at hm
  replace K1 := Lib.hid (HeldP.start k t K1)
  obtain ⟨r, hr⟩ : ∃ r, rightL l s = r := ⟨_, rfl⟩
  have HR := Lib.hid hr
  obtain ⟨k0, k1⟩ := hk
  obtain ⟨t0, t1⟩ := ht
  obtain ⟨z0, z1⟩ := hz
  have HN := Lib.hid hn
  have HNO : Hid (b = true → r = true ∧ 1 ≤ z ∧ z ≤ 4 ∧ 0 ≤ k ∧ k < n ∧ 0 ≤ t ∧ t ≤ 100000) := Lib.hid (by
    intro e
    rw [e] at hb
    obtain ⟨k', t', z', rfl, rfl, rfl, hB⟩ := mayL_iff.1 hb
    have h1 := hB.bounds
    have h2 := hB.hk
    have h3 := hB.z1
    have h4 := hB.z4
    exact ⟨by rw [← hr]; exact rightM_iff.2 hB.right, by omega, by omega, by omega, by omega, by omega, by omega⟩)
  have HB := Lib.hid hb
  clear h hg hr hn hb
  go_enter Try.func18, Try.ntmps18
  go_wp2_with fail
  refine (refRight_any l s _ _ K1.out.h.m r HR.out).mono ?_
  rintro e w1 ⟨rfl, b1⟩
  have K2 := Lib.hid (K1.out.next b1)
  clear b1 K1
  have c0 := K2.out.h.c0
  have c1 := K2.out.h.c1
  have p0 := K2.out.p0
  have p1 := K2.out.p1
  by_cases hgood : r = true ∧ 1 ≤ z ∧ z ≤ 4 ∧ 0 ≤ k ∧ k < n ∧ 0 ≤ t ∧ t ≤ 100000
  · obtain ⟨rfl, g1, g2, g3, g4, g5, g6⟩ := hgood
    have hrm := rightM_iff.1 HR.out
    obtain ⟨k, rfl⟩ := Int.eq_ofNat_of_zero_le g3
    have hkl : k < l.length := by rw [HN.out]; omega
    obtain ⟨kk, u, hlk, hok⟩ : ∃ kk u, l[k] = (kk, u) ∧ okG (kk, u) = true := ⟨l[k].1, l[k].2, rfl, hrm.all k hkl⟩
    obtain ⟨g, o, rfl, hlt, e0, e1⟩ := K2.out.h.at_ hkl hlk
    dsimp only at e0 e1
    obtain ⟨x, hx⟩ : ∃ x, takesG (kk, u) z = x := ⟨_, rfl⟩
    obtain ⟨y, hy⟩ : ∃ y, gives (kk, u) s = y := ⟨_, rfl⟩
    have hxb : 1 ≤ x ∧ x ≤ 6 := by rw [← hx]; exact takesG_pos _ _ g1 g2
    obtain ⟨x1, x6⟩ := hxb
    have hn4 : n ≤ 4 := by rw [← HN.out]; exact hrm.few
    have s0 := hrm.s0
    have s1 := hrm.s1
    have HBB : Hid (b = decide (t + x ≤ y)) := Lib.hid (by
      have h1 := HB.out
      unfold mayL at h1
      have h2 : hasL l s (k : Int) = true := hasL_iff.2 ⟨hrm, k, rfl, hkl⟩
      have e3 : (k : Int).toNat = k := by omega
      rw [h2, e3, getD_at hkl, hlk, hx, hy, decide_eq_true g1, decide_eq_true g2, decide_eq_true g5] at h1
      simpa using h1.symm)
    have HX := Lib.hid hx
    have HY := Lib.hid hy
    have HOK := Lib.hid hok
    have hkn : k < n := by omega
    clear hrm hx hy hlk hok hkl
    rcases okG_cases HOK.out with ⟨rfl, u1, u8⟩ | ⟨rfl, u1, u8⟩
    · clear g3
      have hym : s - 16 = y := by rw [← HY.out]; rfl
      have HYM := Lib.hid hym
      clear hym
      have hKW := K2.out.next (boxed w1 (.cells #[.int .i64 0, .int .i64 u] 53))
      have hx0 := (new_pair w1 (.int .i64 0) (.int .i64 u) 53).1
      have hx1 := (new_pair w1 (.int .i64 0) (.int .i64 u) 53).2
      have hxs : w1.heap.size < (w1.alloc (.cells #[.int .i64 0, .int .i64 u] 53)).heap.size := by simp
      have CT : Hid (∀ q : Ext (w1.alloc (.cells #[.int .i64 0, .int .i64 u] 53)), Calls Try.prog 41 #[.agg #[.int .i64 0, .int .i64 u], .int .i64 z] q.v fun e w' => e = .returned (.int .i64 x) ∧ ∃ q' : Ext (w1.alloc (.cells #[.int .i64 0, .int .i64 u] 53)), w' = q'.v) :=
        Lib.hid (Ext.calls fun w' _ => refTakes_any 0 u z w' HOK.out g1 g2 x HX.out)
      have hb1 := K2.out.h.lt
      have hb2 := K2.out.plt
      go_upto_region 7 with (fail)
      have HKW := Lib.hid hKW
      clear hKW c0 c1 p0 p1 e0 e1
      generalize w1.alloc (.cells #[.int .i64 0, .int .i64 u] 53) = W9 at *
      have f0 := fun q : Ext W9 => q.cell HKW.out.p1 HKW.out.plt
      have f1 := fun q : Ext W9 => q.cell hx0 hxs
      have f2 := fun q : Ext W9 => q.cell hx1 hxs
      clear hx0 hx1
      haveI hne : Nonempty (Ext W9) := Ext.some W9
      refine wp_region_family (Ext.v (W := W9)) (by kernel_rfl) (by kernel_rfl) ⟨⟨_, (Below.refl _ W9).drew⟩, rfl⟩ ?_
      repeat (go_big_quiet_step (first | (go_at_call 41; exact CT.out _)))
      refine wpQuiet_nil ?_
      rintro w7 ⟨⟨w8, h8⟩, rfl⟩
      go_wp2
      go_ret
      exact ⟨by rw [HBB.out, ← HYM.out]; rfl, next HKW.out.h.below h8⟩
    · clear g3
      have hym : (s - 16) * u = y := by rw [← HY.out]; rfl
      have hm0 : 0 ≤ (s - 16) * u := Int.mul_nonneg (by omega) (by omega)
      have hm1 : (s - 16) * u ≤ 32640 := by
        have : (s - 16) * u ≤ 4080 * 8 := Int.mul_le_mul (by omega) u8 (by omega) (by omega)
        omega
      have HYM := Lib.hid hym
      clear hym
      have hKW := K2.out.next (boxed w1 (.cells #[.int .i64 1, .int .i64 u] 53))
      have hx0 := (new_pair w1 (.int .i64 1) (.int .i64 u) 53).1
      have hx1 := (new_pair w1 (.int .i64 1) (.int .i64 u) 53).2
      have hxs : w1.heap.size < (w1.alloc (.cells #[.int .i64 1, .int .i64 u] 53)).heap.size := by simp
      have CT : Hid (∀ q : Ext (w1.alloc (.cells #[.int .i64 1, .int .i64 u] 53)), Calls Try.prog 41 #[.agg #[.int .i64 1, .int .i64 u], .int .i64 z] q.v fun e w' => e = .returned (.int .i64 x) ∧ ∃ q' : Ext (w1.alloc (.cells #[.int .i64 1, .int .i64 u] 53)), w' = q'.v) :=
        Lib.hid (Ext.calls fun w' _ => refTakes_any 1 u z w' HOK.out g1 g2 x HX.out)
      have hb1 := K2.out.h.lt
      have hb2 := K2.out.plt
      go_upto_region 7 with (fail)
      have HKW := Lib.hid hKW
      clear hKW c0 c1 p0 p1 e0 e1
      generalize w1.alloc (.cells #[.int .i64 1, .int .i64 u] 53) = W9 at *
      have f0 := fun q : Ext W9 => q.cell HKW.out.p1 HKW.out.plt
      have f1 := fun q : Ext W9 => q.cell hx0 hxs
      have f2 := fun q : Ext W9 => q.cell hx1 hxs
      clear hx0 hx1
      haveI hne : Nonempty (Ext W9) := Ext.some W9
      refine wp_region_family (Ext.v (W := W9)) (by kernel_rfl) (by kernel_rfl) ⟨⟨_, (Below.refl _ W9).drew⟩, rfl⟩ ?_
      repeat (go_big_quiet_step (first | (go_at_call 41; exact CT.out _)))
      refine wpQuiet_nil ?_
      rintro w7 ⟨⟨w8, h8⟩, rfl⟩
      go_wp2
      go_ret
      exact ⟨by rw [HBB.out, ← HYM.out]; rfl, next HKW.out.h.below h8⟩
  · have hbf : false = b := by
      cases e : b with
      | false => rfl
      | true => exact absurd (HNO.out e) hgood
    subst hbf
    have HNG := Lib.hid hgood
    clear hgood
    cases r with
    | false =>
      go_wp2
      go_ret
      exact ⟨rfl, K2.out.h.below⟩
    | true =>
      by_cases g1 : z < 1
      · go_wp2
        go_ret
        exact ⟨rfl, K2.out.h.below⟩
      by_cases g2 : 4 < z
      · go_wp2
        go_ret
        exact ⟨rfl, K2.out.h.below⟩
      by_cases g3 : k < 0
      · go_wp2
        go_ret
        exact ⟨rfl, K2.out.h.below⟩
      by_cases g4 : (n : Int) ≤ k
      · go_wp2
        go_ret
        exact ⟨rfl, K2.out.h.below⟩
      by_cases g5 : t < 0
      · go_wp2
        go_ret
        exact ⟨rfl, K2.out.h.below⟩
      have g6 : 100000 < t := by
        rcases ltge 100000 t with h | h
        · exact h
        · exact absurd ⟨rfl, by omega, by omega, by omega, by omega, by omega, h⟩ HNG.out
      go_wp2
      go_ret
      exact ⟨rfl, K2.out.h.below⟩
end Go.Proofs.Ytlhnmcopioeboaa

/- The document's Of (polderref06): the same columns. -/
namespace Go.Proofs.Ytlhnmcopioeboaa
set_option maxRecDepth 100000
open Go.RowKit

/-- A row begun: k sectors are done, j columns of row r stand. -/
def parMid (f : Int) (t u k r : Nat) : Nat → List C
  | 0 => parTo f t u k
  | 1 => parTo f t u k ++ [colP f u (t + (parTo f t u k).length) r true]
  | j + 2 => parTo f t u (k + (j + 1))
theorem parMid_step (f : Int) (t u k r j : Nat) (hu : 2 ≤ u - 1) (hk : k = r * (u - 1)) (hj : j ≤ u - 1) : parMid f t u k r (j + 1) = parMid f t u k r j ++ [colP f u (t + (parMid f t u k r j).length) r (decide (j = 0))] := by
  have hup : 0 < u - 1 := by omega
  match j, hj with
  | 0, _ => rfl
  | 1, _ =>
    have h1 : k % (u - 1) = 0 := by rw [hk]; exact Nat.mul_mod_left _ _
    have h2 : k / (u - 1) = r := by rw [hk]; exact Nat.mul_div_cancel _ hup
    show parTo f t u (k + 1) = _
    rw [parTo, if_pos h1, h2]
    simp [parMid, Nat.add_assoc]
  | i + 2, hj =>
    have h1 : (k + (i + 1)) % (u - 1) = i + 1 := by rw [hk, Nat.mul_comm, Nat.mul_add_mod, Nat.mod_eq_of_lt (by omega)]
    have h2 : (k + (i + 1)) / (u - 1) = r := by rw [hk, Nat.mul_comm, Nat.mul_add_div hup, Nat.div_eq_of_lt (by omega), Nat.add_zero]
    show parTo f t u (k + (i + 1) + 1) = _
    rw [parTo, if_neg (by omega), h2]
    simp [parMid]
theorem parMid_len (f : Int) (t u k r j : Nat) : (parMid f t u k r j).length ≤ 2 * (k + j) := by
  match j with
  | 0 => exact Nat.le_trans (parTo_len f t u k) (by omega)
  | 1 =>
    have := parTo_len f t u k
    show (parTo f t u k ++ [_]).length ≤ _
    rw [List.length_append]
    simp
    omega
  | i + 2 => exact Nat.le_trans (parTo_len f t u (k + (i + 1))) (by omega)

set_option maxHeartbeats 2000000 in
theorem refOf_mir (l : List (Int × Int)) (s : Int) (v : Value) (w : World) (h : Meas w v l s) (hr : RightM l s) (k : Nat) (hk : k < l.length) (u : Nat) (hu : l[k] = (0, (u : Int))) (t : Int) (t0 : 0 ≤ t) (t1 : t ≤ 4096) (z : Nat) (z4 : z ≤ 4) :
    Calls Try.prog 21 #[v, .agg #[.int .i64 (k : Int), .int .i64 t], .int .i64 (z : Int)] w fun e w' => ∃ v', e = .returned v' ∧ OwnC w.heap.size w' v' (mirL (aheadL l k) t u z) ∧ Below w.heap.size w w' := by
  obtain ⟨a, n, c, rfl, hg⟩ := id h
  have hn := hg.1.2.1
  have hn4 : n ≤ 4 := by rw [← hn]; exact hr.few
  have hkn : k < n := by rw [← hn]; exact hk
  obtain ⟨uu1, uu8⟩ : 1 ≤ (u : Int) ∧ (u : Int) ≤ 8 := by have := okG_wide (hr.all k hk); rw [hu] at this; exact this
  have uu8' : u ≤ 8 := by omega
  obtain ⟨f, hf⟩ : ∃ f, aheadL l k = f := ⟨_, rfl⟩
  have hfb := hr.bounds k (Nat.le_of_lt hk)
  rw [hf] at hfb ⊢
  have f0 : 0 ≤ f := by omega
  have f1 : f ≤ 32 := by omega
  have K1 := Lib.hid (HeldP.start (k : Int) t h)
  have HR := Lib.hid hr
  have HL : Hid (∃ hk : k < l.length, l[k] = (0, (u : Int))) := Lib.hid ⟨hk, hu⟩
  have HF := Lib.hid hf
  have c0 := K1.out.h.c0
  have c1 := K1.out.h.c1
  have p0 := K1.out.p0
  obtain ⟨g, o, rfl, hlt, e0, e1⟩ := K1.out.h.at_ HL.out.1 HL.out.2
  dsimp only at e0 e1
  have hb1 := K1.out.h.lt
  have hb2 := K1.out.plt
  clear h hg hr hn hf hfb hu hk
  go_enter Try.func21, Try.ntmps21
  go_upto_region 2 with (fail)
  generalize (w.alloc (.cells #[.slice (some ⟨g, o, none⟩) n c, .int .i64 s] 24)).alloc (.cells #[.int .i64 (k : Int), .int .i64 t] 26) = W1 at *
  have K2 := Lib.hid (K1.out.next (boxed W1 (.cells #[.int .i64 0, .int .i64 (u : Int)] 53)))
  have hx := Lib.hid (new_pair W1 (.int .i64 0) (.int .i64 (u : Int)) 53)
  have hxs : W1.heap.size < (W1.alloc (.cells #[.int .i64 0, .int .i64 (u : Int)] 53)).heap.size := by simp
  go_wp2_with fail
  refine (refFirst_any l s _ _ K2.out.h.m HR.out k (Nat.le_of_lt HL.out.1) f HF.out).mono ?_
  rintro e w1 ⟨rfl, b1⟩
  have K3 := Lib.hid (K2.out.next b1)
  have hx0 := (b1.cell (p := ⟨W1.heap.size, 0, none⟩) hxs).trans hx.out.1
  have HX1 := Lib.hid ((b1.cell (p := ⟨W1.heap.size, 1, none⟩) hxs).trans hx.out.2)
  have hxl : W1.heap.size < w1.heap.size := Nat.lt_of_lt_of_le hxs b1.size
  have hW : w.heap.size ≤ w1.heap.size := K3.out.h.below.size
  clear c0 c1 p0 e0 e1 hb1 hb2 hlt b1 hx hxs K1 K2
  generalize W1.heap.size = bx at *
  go_wp2_with fail
  go_loopw [7, 10] (fun t8 i wr => ∃ d : Nat, d ≤ u ∧ i = .int .i64 (d : Int) ∧ Hid (OwnC w1.heap.size wr t8 (mirL f t d z)) ∧ Hid (Below w1.heap.size w1 wr)) (fun _ i _ => u - (intOf i).toNat)
  case atStart => exact ⟨0, Nat.zero_le _, rfl, Lib.hid (OwnC.nil _ _), Lib.hid (Below.refl _ _)⟩
  case round =>
    obtain ⟨d, hd, rfl, HO, HB⟩ := hrel
    have x1 := (HB.out.cell (p := ⟨bx, 1, none⟩) hxl).trans HX1.out
    by_cases hdu : d < u
    · go_wp2_with fail
      go_loopw [7, 11] (fun t8 i wr => ∃ j : Nat, j ≤ z ∧ i = .int .i64 (j : Int) ∧ Hid (OwnC w1.heap.size wr t8 (mirL f t d z ++ mirRow f t d j)) ∧ Hid (Below w1.heap.size w1 wr)) (fun _ i _ => z - (intOf i).toNat)
      case atStart => exact ⟨0, Nat.zero_le _, rfl, Lib.hid (by simpa [mirRow] using HO.out), HB⟩
      case round =>
        obtain ⟨j, hj, rfl, HO2, HB2⟩ := hrel
        have K4 := Lib.hid (K3.out.next HB2.out)
        have q1 := K4.out.p1
        by_cases hjz : j < z
        · have hsz := HB2.out.size
          have hlen : Hid ((mirL f t d z ++ mirRow f t d j).length ≤ 100000) := Lib.hid (by
            rw [List.length_append, mirL_len, mirRow_len]
            have : d * z ≤ 8 * 4 := Nat.mul_le_mul (by omega) z4
            omega)
          go_wp2_with (first | (at_builtin; refine wpList_append_col _ rfl _ _ rfl w1.heap.size _ _ ⟨f + d, 16 + t + j, false, j⟩ wr.heap.size 1 rfl rfl (HO2.out.below (boxed _ _)) ⟨by simp, by simp, by simp, by simp⟩ (by simp; omega) hlen.out ?_; intro v3 w3 hown3 hb3 hs3))
          go_roundw
          case rel =>
            refine ⟨j + 1, by omega, by go_num, Lib.hid ?_, Lib.hid ((HB2.out.alloc hsz _).trans hb3)⟩
            rw [mirRow_succ, ← List.append_assoc]
            exact hown3
          case measure => simp [intOf]; omega
        · obtain rfl : j = z := by omega
          go_wp2
          go_roundw
          case rel => exact ⟨d + 1, by omega, by go_num, Lib.hid (by rw [mirL_succ]; exact HO2.out), HB2⟩
          case measure => simp [intOf]; omega
    · obtain rfl : d = u := by omega
      go_wp2
      go_ret
      exact ⟨_, rfl, HO.out.lower hW, next K3.out.h.below HB.out⟩
end Go.Proofs.Ytlhnmcopioeboaa

/- The document's Of (polderref06), of a Parity. -/
namespace Go.Proofs.Ytlhnmcopioeboaa
set_option maxRecDepth 100000
open Go.RowKit

theorem step_append_run {P : Program} {ops : Array Oper} {o : Oper} {a : Act} {w : World} {K : Act → World → Prop} {Q : Exit → Act → World → Prop} {E : Prop} (hg : o.guard = none) (s x : Operand) (t : TypeId)
    (hop : o.op = Op.call { callee := Callee.builtin Builtin.append, args := #[s, x], argTypes := #[t, t] }) (v xv : Value) (hs : a.eval s = v) (hx : a.eval x = xv) (r : Value) (w' : World)
    (hr : (Builtin.append_ #[t, t] o.type #[v, xv]).run P w = .ok r w') (hK : K (a.put o.dst r) w') : if Region.wanted o (yielded ops a.tmps) = true then Oper.wp P o a w K Q else E := by
  have hw : Region.wanted o (yielded ops a.tmps) = true := by simp [Region.wanted, hg]
  rw [if_pos hw]
  exact Lib.wp_append_run w s x t t hop v xv hs hx r w' hr hK
theorem app_col (w : World) (B : Nat) (v : Value) (l : List C) (c : C) (g c' : Nat) (ty : TypeId) (hv : OwnC B w v l) (hc : IsC w g 0 c) (hB : B ≤ w.heap.size) (hN : l.length ≤ 100000) :
    ∃ v' w', (Builtin.append_ #[55, 55] ty #[v, .slice (some ⟨g, 0, none⟩) 1 c']).run Try.prog w = .ok v' w' ∧ OwnC B w' v' (l ++ [c]) ∧ Below B w w' := by
  obtain ⟨i, hi, hz, hsz, hb⟩ := info_col
  obtain ⟨v', w', h1, h2, h3, _⟩ := run_append_own_at (P := Try.prog) w B 55 ty 58 i _ 4 32 Try.underlying55 hi hz hsz hb rfl (by decide) v l.length (flatC l) hv ⟨g, 0, none⟩ 1 c' (C.cells c) rfl
    (fun j u hj => by
      have hlt : j < 4 := (List.getElem?_eq_some_iff.1 hj).1
      rw [Go.WideShapes.add_plain, ← hj]
      exact hc.get j hlt) (fun u hu => flatC_one [c] u (by simpa [flatC] using hu)) (by unfold maxLen; omega) (by omega) hB
  refine ⟨v', w', h1, ?_, (Below.refl B w).grown h3 hB fun k hk => (World.ownsRow.lt hv k hk).1⟩
  unfold OwnC
  rw [List.length_append, flatC_app]
  have e : flatC [c] = C.cells c := by simp [flatC]
  rw [e]
  exact h2

set_option maxHeartbeats 2000000 in
theorem refOf_par (l : List (Int × Int)) (s : Int) (v : Value) (w : World) (h : Meas w v l s) (hr : RightM l s) (k : Nat) (hk : k < l.length) (u : Nat) (hu : l[k] = (1, (u : Int))) (t : Nat) (t1 : t ≤ 40000) (z : Nat) (z4 : z ≤ 4) :
    Calls Try.prog 21 #[v, .agg #[.int .i64 (k : Int), .int .i64 (t : Int)], .int .i64 (z : Int)] w fun e w' => ∃ v', e = .returned v' ∧ OwnC w.heap.size w' v' (parTo (aheadL l k) t u z) ∧ Below w.heap.size w w' := by
  obtain ⟨a, n, c, rfl, hg⟩ := id h
  have hn := hg.1.2.1
  have hn4 : n ≤ 4 := by rw [← hn]; exact hr.few
  have hkn : k < n := by rw [← hn]; exact hk
  obtain ⟨uu1, uu8⟩ : 3 ≤ u ∧ u ≤ 8 := by
    have := hr.all k hk
    rw [hu] at this
    rcases okG_cases this with ⟨h1, _⟩ | ⟨_, h1, h2⟩
    · omega
    · omega
  obtain ⟨f, hf⟩ : ∃ f, aheadL l k = f := ⟨_, rfl⟩
  have hfb := hr.bounds k (Nat.le_of_lt hk)
  rw [hf] at hfb ⊢
  have f0 : 0 ≤ f := by omega
  have f1 : f ≤ 32 := by omega
  have K1 := Lib.hid (HeldP.start (k : Int) (t : Int) h)
  have HR := Lib.hid hr
  have HL : Hid (∃ hk : k < l.length, l[k] = (1, (u : Int))) := Lib.hid ⟨hk, hu⟩
  have HF := Lib.hid hf
  have c0 := K1.out.h.c0
  have c1 := K1.out.h.c1
  have p0 := K1.out.p0
  obtain ⟨g, o, rfl, hlt, e0, e1⟩ := K1.out.h.at_ HL.out.1 HL.out.2
  dsimp only at e0 e1
  have hb1 := K1.out.h.lt
  have hb2 := K1.out.plt
  clear h hg hr hn hf hfb hu hk
  go_enter Try.func21, Try.ntmps21
  go_upto_region 2 with (fail)
  generalize (w.alloc (.cells #[.slice (some ⟨g, o, none⟩) n c, .int .i64 s] 24)).alloc (.cells #[.int .i64 (k : Int), .int .i64 (t : Int)] 26) = W1 at *
  have K2 := Lib.hid (K1.out.next (boxed W1 (.cells #[.int .i64 1, .int .i64 (u : Int)] 53)))
  have hx := Lib.hid (new_pair W1 (.int .i64 1) (.int .i64 (u : Int)) 53)
  have hxs : W1.heap.size < (W1.alloc (.cells #[.int .i64 1, .int .i64 (u : Int)] 53)).heap.size := by simp
  go_wp2_with fail
  refine (refFirst_any l s _ _ K2.out.h.m HR.out k (Nat.le_of_lt HL.out.1) f HF.out).mono ?_
  rintro e w1 ⟨rfl, b1⟩
  have K3 := Lib.hid (K2.out.next b1)
  have hx0 := (b1.cell (p := ⟨W1.heap.size, 0, none⟩) hxs).trans hx.out.1
  have HX1 := Lib.hid ((b1.cell (p := ⟨W1.heap.size, 1, none⟩) hxs).trans hx.out.2)
  have hxl : W1.heap.size < w1.heap.size := Nat.lt_of_lt_of_le hxs b1.size
  have hW : w.heap.size ≤ w1.heap.size := K3.out.h.below.size
  have q1 := K3.out.p1
  clear c0 c1 p0 e0 e1 hb1 hb2 hlt b1 hx hxs K1 K2
  generalize W1.heap.size = bx at *
  obtain ⟨p, hp⟩ : ∃ p : Nat, (u : Int) - 1 = (p : Int) := ⟨u - 1, by omega⟩
  have HPu : Hid (u - 1 = p) := Lib.hid (by omega)
  have pp2 : 2 ≤ p := by omega
  have pp7 : p ≤ 7 := by omega
  go_wp2_with fail
  clear hx0 q1
  go_loopw [2, 7, 12, 13] (fun i2 t7 i12 i13 wr => ∃ m k r A : Nat, m + k = z ∧ A ≤ 50000 ∧ r ≤ 4 ∧ i2 = .int .i64 (m : Int) ∧ i12 = .int .i64 (A : Int) ∧ i13 = .int .i64 (r : Int) ∧ Hid (k = r * p ∨ m = 0) ∧ Hid (A = t + (parTo f t u k).length) ∧ Hid (r ≤ k) ∧ Hid (OwnC w1.heap.size wr t7 (parTo f t u k)) ∧ Hid (Below w1.heap.size w1 wr)) (fun i _ _ _ _ => (intOf i).toNat)
  case atStart => exact ⟨z, 0, 0, t, by omega, by omega, by omega, rfl, rfl, rfl, Lib.hid (.inl (by simp)), Lib.hid rfl, Lib.hid (Nat.le_refl _), Lib.hid (OwnC.nil _ _), Lib.hid (Below.refl _ _)⟩
  case round =>
    obtain ⟨m, k', r, A, hmk, hA, hr4, rfl, rfl, rfl, HKR, HA, HRK, HO, HB⟩ := hrel
    have x1 := (HB.out.cell (p := ⟨bx, 1, none⟩) hxl).trans HX1.out
    by_cases hm0 : 0 < m
    · have HKR' : Hid (k' = r * p) := Lib.hid (by
        rcases HKR.out with h | h
        · exact h
        · omega)
      have m4 : m ≤ 4 := by omega
      by_cases hpm : p < m
      · have hpm' : (p : Int) < (m : Int) := by omega
        have HNN : Hid (p = p ∨ p = m) := Lib.hid (by omega)
        have hn1 : 1 ≤ p := by omega
        go_wp2_with fail
        go_loopw [7, 12, 15] (fun t7 i12 i15 wr => ∃ j A : Nat, j ≤ p + 1 ∧ A ≤ 60000 ∧ i15 = .int .i64 (j : Int) ∧ i12 = .int .i64 (A : Int) ∧ Hid (A = t + (parMid f t u k' r j).length) ∧ Hid (OwnC w1.heap.size wr t7 (parMid f t u k' r j)) ∧ Hid (Below w1.heap.size w1 wr)) (fun _ _ i _ => p + 1 - (intOf i).toNat)
        case atStart => exact ⟨0, A, Nat.zero_le _, by omega, rfl, rfl, HA, HO, HB⟩
        case round =>
          obtain ⟨j, B, hj, hB6, rfl, rfl, HBL, HOj, HBj⟩ := hrel
          clear x1
          have x1 := (HBj.out.cell (p := ⟨bx, 1, none⟩) hxl).trans HX1.out
          by_cases hjn : j ≤ p
          · have hup : 0 < u := by omega
            have hq1 := Nat.mod_lt B hup
            have hq2 := Nat.div_le_self B u
            obtain ⟨qm, hqm⟩ : ∃ qm : Nat, (B : Int) % (u : Int) = (qm : Int) := ⟨B % u, by simp⟩
            obtain ⟨qd, hqd⟩ : ∃ qd : Nat, (B : Int) / (u : Int) = (qd : Int) := ⟨B / u, by simp⟩
            have HQM : Hid (B % u = qm) := Lib.hid (by have : ((B % u : Nat) : Int) = (qm : Int) := by rw [← hqm]; simp
                                                       omega)
            have HQD : Hid (B / u = qd) := Lib.hid (by have : ((B / u : Nat) : Int) = (qd : Int) := by rw [← hqd]; simp
                                                       omega)
            have hqm8 : qm ≤ 8 := by have := HQM.out; omega
            have hqd8 : qd ≤ 60000 := by have := HQD.out; omega
            clear hq1 hq2
            have HST := Lib.hid (parMid_step f t u k' r j (by have := HPu.out; omega) (by rw [HPu.out]; exact HKR'.out) (by rw [HPu.out]; omega))
            have HC : Hid (colP f u (t + (parMid f t u k' r j).length) r (decide (j = 0)) = ⟨f + (qm : Int), 16 + (qd : Int), decide (j = 0), (r : Int)⟩) := Lib.hid (by rw [← HBL.out]; unfold colP; rw [HQM.out, HQD.out])
            have HLE : Hid ((parMid f t u k' r j).length ≤ 100000) := Lib.hid (Nat.le_trans (parMid_len f t u k' r j) (by omega))
            have hsz := HBj.out.size
            have hB5 : B + 1 ≤ 60000 := by have h1 := HBL.out; have h2 := parMid_len f t u k' r j; omega
            have i1 : IntKind.i64.wrap (f + (qm : Int)) = f + (qm : Int) := by rw [IntKind.wrap_i64]; omega
            have i2 : IntKind.i64.wrap (16 + (qd : Int)) = 16 + (qd : Int) := by rw [IntKind.wrap_i64]; omega
            have i3 : IntKind.i64.wrap (16 : Int) = 16 := by decide
            have i4 : ((u : Int) == 0) = false := by simp; omega
            have i9 : ¬ (u : Int) = 0 := by omega
            have i10 : ¬ u = 0 := by omega
            have i5 : IntKind.i64.wrap (qm : Int) = (qm : Int) := by rw [IntKind.wrap_i64]; omega
            have i6 : IntKind.i64.wrap (qd : Int) = (qd : Int) := by rw [IntKind.wrap_i64]; omega
            have i7 : Int.tmod (B : Int) (u : Int) = (qm : Int) := by rw [Int.tmod_eq_emod_of_nonneg (by omega)]; exact hqm
            have i8 : Int.tdiv (B : Int) (u : Int) = (qd : Int) := by rw [Int.tdiv_eq_ediv_of_nonneg (by omega)]; exact hqd
            obtain ⟨bj, hbj⟩ : ∃ bj, ((j : Int) == 0) = bj := ⟨_, rfl⟩
            have HBJ : Hid (decide (j = 0) = bj) := Lib.hid (by rw [← hbj, Bool.eq_iff_iff, decide_eq_true_iff, beq_iff_eq]; omega)
            rw [HBJ.out] at HC HST
            go_wp2_with fail
            have HAPP : Hid (∀ ty, ∃ v3 w3, (Builtin.append_ #[55, 55] ty #[u7, .slice (some ⟨wr.heap.size, 0, none⟩) 1 1]).run Try.prog (wr.alloc (.cells #[.int .i64 (f + (qm : Int)), .int .i64 (16 + (qd : Int)), .bool bj, .int .i64 (r : Int)] 58)).drew = .ok v3 w3 ∧ OwnC w1.heap.size w3 v3 (parMid f t u k' r j ++ [⟨f + (qm : Int), 16 + (qd : Int), bj, (r : Int)⟩]) ∧ Below w1.heap.size (wr.alloc (.cells #[.int .i64 (f + (qm : Int)), .int .i64 (16 + (qd : Int)), .bool bj, .int .i64 (r : Int)] 58)).drew w3) :=
              Lib.hid fun ty => app_col _ w1.heap.size u7 _ ⟨f + (qm : Int), 16 + (qd : Int), bj, (r : Int)⟩ wr.heap.size 1 ty ((HOj.out.below (boxed _ _)).below (Below.refl _ _).drew) ⟨by simp, by simp, by simp, by simp⟩ (by simp; omega) HLE.out
            have hlx : bx < wr.heap.size := Nat.lt_of_lt_of_le hxl hsz
            go_region_held3 (fun W => W.cell? ⟨bx, 1, none⟩ = some (.int .i64 (u : Int)))
              (first | exact x1 | exact y1 | exact (((boxed wr _).cell (p := ⟨bx, 1, none⟩) hlx)).trans x1 | exact ((((boxed wr _).drew).cell (p := ⟨bx, 1, none⟩) hlx)).trans x1)
              (first | (obtain ⟨v3, w3, ea, hown3, hb3⟩ := HAPP.out 55; have y1 : w3.cell? ⟨bx, 1, none⟩ = some (.int .i64 (u : Int)) := (hb3.cell (p := ⟨bx, 1, none⟩) hxl).trans (((((boxed wr _).drew).cell (p := ⟨bx, 1, none⟩) hlx)).trans x1); refine step_append_run rfl _ _ _ rfl _ _ rfl rfl _ _ ea ?_))
            all_goals
              have HO3 := Lib.hid hown3
              have HB3 := Lib.hid hb3
              clear hown3 hb3
              go_wp2
              go_roundw
              case rel =>
                refine ⟨j + 1, B + 1, by omega, by omega, by go_num, by go_num, Lib.hid ?_, Lib.hid ?_, Lib.hid ((grows_alloc HBj.out _).drew.trans HB3.out)⟩
                · rw [HST.out, List.length_append]; have := HBL.out; simp; omega
                · rw [HST.out, HC.out]; exact HO3.out
              case measure => simp [intOf]; omega
          · obtain rfl : j = p + 1 := by omega
            obtain ⟨q, hq⟩ : ∃ q, p = q + 1 := ⟨p - 1, by omega⟩
            have HPM : Hid (parMid f t u k' r (p + 1) = parTo f t u (k' + p)) := Lib.hid (by rw [hq]; rfl)
            clear hq
            go_wp2
            go_roundw
            case rel =>
              refine ⟨m - p, k' + p, r + 1, B, by omega, by have h1 := HBL.out; have h2 := parMid_len f t u k' r (p + 1); omega, by have := HRK.out; omega, by go_num, rfl, by go_num, Lib.hid ?_, Lib.hid (by rw [← HPM.out]; exact HBL.out), Lib.hid (by have := HRK.out; omega), Lib.hid (by rw [← HPM.out]; exact HOj.out), HBj⟩
              left; rw [Nat.add_mul, Nat.one_mul, ← HKR'.out]
            case measure => simp [intOf]; omega
      · have hpm' : ¬ (p : Int) < (m : Int) := by omega
        have HNN : Hid (m = p ∨ m = m) := Lib.hid (by omega)
        have hn1 : 1 ≤ m := by omega
        go_wp2_with fail
        go_loopw [7, 12, 15] (fun t7 i12 i15 wr => ∃ j A : Nat, j ≤ m + 1 ∧ A ≤ 60000 ∧ i15 = .int .i64 (j : Int) ∧ i12 = .int .i64 (A : Int) ∧ Hid (A = t + (parMid f t u k' r j).length) ∧ Hid (OwnC w1.heap.size wr t7 (parMid f t u k' r j)) ∧ Hid (Below w1.heap.size w1 wr)) (fun _ _ i _ => m + 1 - (intOf i).toNat)
        case atStart => exact ⟨0, A, Nat.zero_le _, by omega, rfl, rfl, HA, HO, HB⟩
        case round =>
          obtain ⟨j, B, hj, hB6, rfl, rfl, HBL, HOj, HBj⟩ := hrel
          clear x1
          have x1 := (HBj.out.cell (p := ⟨bx, 1, none⟩) hxl).trans HX1.out
          by_cases hjn : j ≤ m
          · have hup : 0 < u := by omega
            have hq1 := Nat.mod_lt B hup
            have hq2 := Nat.div_le_self B u
            obtain ⟨qm, hqm⟩ : ∃ qm : Nat, (B : Int) % (u : Int) = (qm : Int) := ⟨B % u, by simp⟩
            obtain ⟨qd, hqd⟩ : ∃ qd : Nat, (B : Int) / (u : Int) = (qd : Int) := ⟨B / u, by simp⟩
            have HQM : Hid (B % u = qm) := Lib.hid (by have : ((B % u : Nat) : Int) = (qm : Int) := by rw [← hqm]; simp
                                                       omega)
            have HQD : Hid (B / u = qd) := Lib.hid (by have : ((B / u : Nat) : Int) = (qd : Int) := by rw [← hqd]; simp
                                                       omega)
            have hqm8 : qm ≤ 8 := by have := HQM.out; omega
            have hqd8 : qd ≤ 60000 := by have := HQD.out; omega
            clear hq1 hq2
            have HST := Lib.hid (parMid_step f t u k' r j (by have := HPu.out; omega) (by rw [HPu.out]; exact HKR'.out) (by rw [HPu.out]; omega))
            have HC : Hid (colP f u (t + (parMid f t u k' r j).length) r (decide (j = 0)) = ⟨f + (qm : Int), 16 + (qd : Int), decide (j = 0), (r : Int)⟩) := Lib.hid (by rw [← HBL.out]; unfold colP; rw [HQM.out, HQD.out])
            have HLE : Hid ((parMid f t u k' r j).length ≤ 100000) := Lib.hid (Nat.le_trans (parMid_len f t u k' r j) (by omega))
            have hsz := HBj.out.size
            have hB5 : B + 1 ≤ 60000 := by have h1 := HBL.out; have h2 := parMid_len f t u k' r j; omega
            have i1 : IntKind.i64.wrap (f + (qm : Int)) = f + (qm : Int) := by rw [IntKind.wrap_i64]; omega
            have i2 : IntKind.i64.wrap (16 + (qd : Int)) = 16 + (qd : Int) := by rw [IntKind.wrap_i64]; omega
            have i3 : IntKind.i64.wrap (16 : Int) = 16 := by decide
            have i4 : ((u : Int) == 0) = false := by simp; omega
            have i9 : ¬ (u : Int) = 0 := by omega
            have i10 : ¬ u = 0 := by omega
            have i5 : IntKind.i64.wrap (qm : Int) = (qm : Int) := by rw [IntKind.wrap_i64]; omega
            have i6 : IntKind.i64.wrap (qd : Int) = (qd : Int) := by rw [IntKind.wrap_i64]; omega
            have i7 : Int.tmod (B : Int) (u : Int) = (qm : Int) := by rw [Int.tmod_eq_emod_of_nonneg (by omega)]; exact hqm
            have i8 : Int.tdiv (B : Int) (u : Int) = (qd : Int) := by rw [Int.tdiv_eq_ediv_of_nonneg (by omega)]; exact hqd
            obtain ⟨bj, hbj⟩ : ∃ bj, ((j : Int) == 0) = bj := ⟨_, rfl⟩
            have HBJ : Hid (decide (j = 0) = bj) := Lib.hid (by rw [← hbj, Bool.eq_iff_iff, decide_eq_true_iff, beq_iff_eq]; omega)
            rw [HBJ.out] at HC HST
            go_wp2_with fail
            have HAPP : Hid (∀ ty, ∃ v3 w3, (Builtin.append_ #[55, 55] ty #[u7, .slice (some ⟨wr.heap.size, 0, none⟩) 1 1]).run Try.prog (wr.alloc (.cells #[.int .i64 (f + (qm : Int)), .int .i64 (16 + (qd : Int)), .bool bj, .int .i64 (r : Int)] 58)).drew = .ok v3 w3 ∧ OwnC w1.heap.size w3 v3 (parMid f t u k' r j ++ [⟨f + (qm : Int), 16 + (qd : Int), bj, (r : Int)⟩]) ∧ Below w1.heap.size (wr.alloc (.cells #[.int .i64 (f + (qm : Int)), .int .i64 (16 + (qd : Int)), .bool bj, .int .i64 (r : Int)] 58)).drew w3) :=
              Lib.hid fun ty => app_col _ w1.heap.size u7 _ ⟨f + (qm : Int), 16 + (qd : Int), bj, (r : Int)⟩ wr.heap.size 1 ty ((HOj.out.below (boxed _ _)).below (Below.refl _ _).drew) ⟨by simp, by simp, by simp, by simp⟩ (by simp; omega) HLE.out
            have hlx : bx < wr.heap.size := Nat.lt_of_lt_of_le hxl hsz
            go_region_held3 (fun W => W.cell? ⟨bx, 1, none⟩ = some (.int .i64 (u : Int)))
              (first | exact x1 | exact y1 | exact (((boxed wr _).cell (p := ⟨bx, 1, none⟩) hlx)).trans x1 | exact ((((boxed wr _).drew).cell (p := ⟨bx, 1, none⟩) hlx)).trans x1)
              (first | (obtain ⟨v3, w3, ea, hown3, hb3⟩ := HAPP.out 55; have y1 : w3.cell? ⟨bx, 1, none⟩ = some (.int .i64 (u : Int)) := (hb3.cell (p := ⟨bx, 1, none⟩) hxl).trans (((((boxed wr _).drew).cell (p := ⟨bx, 1, none⟩) hlx)).trans x1); refine step_append_run rfl _ _ _ rfl _ _ rfl rfl _ _ ea ?_))
            all_goals
              have HO3 := Lib.hid hown3
              have HB3 := Lib.hid hb3
              clear hown3 hb3
              go_wp2
              go_roundw
              case rel =>
                refine ⟨j + 1, B + 1, by omega, by omega, by go_num, by go_num, Lib.hid ?_, Lib.hid ?_, Lib.hid ((grows_alloc HBj.out _).drew.trans HB3.out)⟩
                · rw [HST.out, List.length_append]; have := HBL.out; simp; omega
                · rw [HST.out, HC.out]; exact HO3.out
              case measure => simp [intOf]; omega
          · obtain rfl : j = m + 1 := by omega
            obtain ⟨q, hq⟩ : ∃ q, m = q + 1 := ⟨m - 1, by omega⟩
            have HPM : Hid (parMid f t u k' r (m + 1) = parTo f t u (k' + m)) := Lib.hid (by rw [hq]; rfl)
            clear hq
            go_wp2
            go_roundw
            case rel =>
              refine ⟨m - m, k' + m, r + 1, B, by omega, by have h1 := HBL.out; have h2 := parMid_len f t u k' r (m + 1); omega, by have := HRK.out; omega, by go_num, rfl, by go_num, Lib.hid ?_, Lib.hid (by rw [← HPM.out]; exact HBL.out), Lib.hid (by have := HRK.out; omega), Lib.hid (by rw [← HPM.out]; exact HOj.out), HBj⟩
              right; omega
            case measure => simp [intOf]; omega
    · obtain rfl : m = 0 := by omega
      obtain rfl : k' = z := by omega
      go_wp2
      go_ret
      exact ⟨_, rfl, HO.out.lower hW, next K3.out.h.below HB.out⟩
end Go.Proofs.Ytlhnmcopioeboaa

/- The document's Of, Text, Fits (polderref06, polderref07), of any block. -/
namespace Go.Proofs.Ytlhnmcopioeboaa
set_option maxRecDepth 100000
open Go.RowKit M

theorem refOf_any (l : List (Int × Int)) (sc : Int) (v : Value) (w : World) (h : Meas w v l sc) (k t z : Nat) (hB : Blk l sc k t z) :
    Calls Try.prog 21 #[v, .agg #[.int .i64 (k : Int), .int .i64 (t : Int)], .int .i64 (z : Int)] w fun e w' => ∃ v', e = .returned v' ∧ OwnC w.heap.size w' v' (colsOf l k t z) ∧ Below w.heap.size w w' := by
  obtain ⟨kk, u, hK⟩ := hB.kinded
  have hk := hB.hk
  have hlk : l[k] = (kk, (u : Int)) := by rw [← getD_at hk]; exact hK.grp
  have hfit := hB.fit
  have hb := hB.bounds
  have hs1 := hB.right.s1
  have htk := takesG_pos l[k] z (by have := hB.z1; omega) (by have := hB.z4; omega)
  rcases hK.ok with ⟨rfl, _, _, e, _⟩ | ⟨rfl, _, _, e, _⟩
  · have ht : (t : Int) ≤ 4096 := by
      rw [hlk] at hfit htk
      have hg : gives (0, (u : Int)) sc ≤ sc := by unfold gives; simp; omega
      omega
    rw [e]
    exact refOf_mir l sc v w h hB.right k hk u hlk t (by omega) ht z hB.z4
  · rw [e]
    exact refOf_par l sc v w h hB.right k hk u hlk t (by omega) z hB.z4

/-- Is a text of N bytes a block's? -/
def textB (N : Nat) : Bool := decide (0 < N) && decide (N ≤ 256) && decide (N % 64 = 0)
theorem text_may (l : List (Int × Int)) (sc k t : Int) (N : Nat) : (textB N && mayL l sc k t ((N / 64 : Nat) : Int)) = mayT l sc k t N := by
  unfold mayT
  cases hm : mayL l sc k t ((N / 64 : Nat) : Int) with
  | false => simp
  | true =>
    obtain ⟨k', t', z', _, _, hz, hB⟩ := mayL_iff.1 hm
    have h1 := hB.z1
    have h4 := hB.z4
    rw [Bool.and_true, Bool.and_true]
    unfold textB
    by_cases h : N % 64 = 0
    · simp [h]; omega
    · simp [h]
theorem refText_any (s : ByteArray) (w : World) (hs : s.size ≤ 1000) :
    Calls Try.prog 17 #[.string s] w fun e w' => e = .returned (.bool (textB s.size)) ∧ w = w' := by
  obtain ⟨N, hN⟩ : ∃ N, s.size = N := ⟨_, rfl⟩
  have HN := Lib.hid hN
  rw [hN] at hs
  by_cases h0 : 0 < N
  · by_cases h1 : N ≤ 256
    · obtain ⟨r, hr⟩ : ∃ r, N % 64 = r := ⟨_, rfl⟩
      have q3 : Int.tmod (N : Int) 64 = (r : Int) := by rw [Int.tmod_eq_emod_of_nonneg (by omega)]; omega
      by_cases h2 : r = 0
      · have hb : ((r : Int) == 0) = true := by simp; omega
        have HT : Hid (textB N = true) := Lib.hid (by unfold textB; rw [decide_eq_true h0, decide_eq_true h1, hr, h2]; rfl)
        clear h2 hr
        go_enter Try.func17, Try.ntmps17
        go_wp2
        go_ret
        exact ⟨by first | (rw [HN.out, HT.out]; simp; done) | (rw [HT.out]; rfl), rfl⟩
      · have hb : ((r : Int) == 0) = false := by simp; omega
        have HT : Hid (textB N = false) := Lib.hid (by unfold textB; rw [hr]; simp [h2])
        clear h2 hr
        go_enter Try.func17, Try.ntmps17
        go_wp2
        go_ret
        exact ⟨by first | (rw [HN.out, HT.out]; simp; done) | (rw [HT.out]; rfl), rfl⟩
    · have HT : Hid (textB N = false) := Lib.hid (by unfold textB; simp [h1])
      go_enter Try.func17, Try.ntmps17
      go_wp2
      go_ret
      exact ⟨by first | (rw [HN.out, HT.out]; simp; done) | (rw [HT.out]; rfl), rfl⟩
  · have HT : Hid (textB N = false) := Lib.hid (by unfold textB; simp [h0])
    go_enter Try.func17, Try.ntmps17
    go_wp2
    go_ret
    exact ⟨by first | (rw [HN.out, HT.out]; simp; done) | (rw [HT.out]; rfl), rfl⟩

end Go.Proofs.Ytlhnmcopioeboaa
