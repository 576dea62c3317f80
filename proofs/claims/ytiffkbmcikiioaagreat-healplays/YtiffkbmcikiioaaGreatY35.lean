/-
  polderlaw08.Devices: a measure's devices, some of them away, some lost.
-/
import Derived.Test.YtiffkbmcikiioaaGreatY33
import Derived.Test.YtiffkbmcikiioaaGreatY34
import Derived.Test.YtiffkbmcikiioaaGreatY02
import Derived.Maps.AppendAt

/- polderlaw08.Devices: a measure's devices, some of them away, some lost. -/
namespace Go.Proofs.YtiffkbmcikiioaaGreat
set_option maxRecDepth 100000
open Go.RowKit Go.Maps M

/-- A slice of bools that came in. -/
def Bl (w : World) (a : Option Addr) (n : Nat) (f : Nat → Bool) : Prop := n ≤ maxLen ∧ ∀ i, i < n → ∃ g o, a = some ⟨g, o, none⟩ ∧ g < w.heap.size ∧ w.cell? ⟨g, o + i, none⟩ = some (.bool (f i))
theorem Bl.below {w w' : World} {a : Option Addr} {n : Nat} {f : Nat → Bool} (h : Bl w a n f) (hb : Below w.heap.size w w') : Bl w' a n f := ⟨h.1, fun i hi => by
  obtain ⟨g, o, ha, hg, hc⟩ := h.2 i hi
  exact ⟨g, o, ha, Nat.lt_of_lt_of_le hg hb.size, (hb.cell (p := ⟨g, o + i, none⟩) hg).trans hc⟩⟩
theorem Bl.nil (w : World) (f : Nat → Bool) : Bl w none 0 f := ⟨Nat.zero_le _, fun _ hi => absurd hi (Nat.not_lt_zero _)⟩
/-- What a list of marks says of a device. -/
def saysB (n : Nat) (f : Nat → Bool) (i : Nat) : Bool := decide (i < n) && f i
/-- An own slice of bools. -/
def OwnBl (B : Nat) (w : World) (v : Value) (l : List Bool) : Prop := w.ownsRow B 4 1 v l.length (l.map Value.bool)
theorem OwnBl.same {B : Nat} {w w' : World} {v : Value} {l : List Bool} (h : OwnBl B w v l) (hb : ∀ k, v.ownBlock = some k → w'.heap[k]? = w.heap[k]?) : OwnBl B w' v l := by
  refine ⟨h.1, ?_⟩
  rcases h.2 with hn | ⟨g, cap, cur, rfl, hB, hg, rest⟩
  · exact .inl hn
  · exact .inr ⟨g, cap, cur, rfl, hB, (hb g rfl).trans hg, rest⟩
theorem OwnBl.below {B : Nat} {w w' : World} {v : Value} {l : List Bool} (h : OwnBl B w v l) (hb : Below w.heap.size w w') : OwnBl B w' v l := h.same fun k hk => hb.block k (World.ownsRow.lt h k hk).2
theorem info_bool : ∃ i, Tryz.prog.info? 4 = some i ∧ i.zero = some (.bool false) ∧ i.size = 1 ∧ i.bytes = 1 := info_parts (by kernel_rfl)
theorem wpList_append_bool {ops : Array Oper} {rest : List Oper} {o : Oper} {a : Act} {Q : Exit → Act → World → Prop} (w : World) (hgd : o.guard = none) (s x : Operand)
    (ho : o.op = .call { callee := .builtin .append, args := #[s, x], argTypes := #[32, 32] }) (B : Nat) (v : Value) (l : List Bool) (b : Bool) (g c' : Nat) (hs : a.eval s = v) (hx : a.eval x = .slice (some ⟨g, 0, none⟩) 1 c')
    (hv : OwnBl B w v l) (hc : w.cell? ⟨g, 0, none⟩ = some (.bool b)) (hB : B ≤ w.heap.size) (hN : l.length ≤ 100000)
    (h : ∀ v' w', OwnBl B w' v' (l ++ [b]) → w.grownBy w' v.ownBlock → (v'.ownBlock = v.ownBlock ∨ v'.ownBlock = some w.heap.size) → wpList Tryz.prog ops Q rest (a.put o.dst v') w') : wpList Tryz.prog ops Q (o :: rest) a w := by
  obtain ⟨i, hi, hz, hsz, hb⟩ := info_bool
  refine wpList_append_own_at w hgd s x _ ho B 4 i _ 1 1 Tryz.underlying32 hi hz hsz hb rfl (by decide) v l.length (l.map Value.bool) hs hv ⟨g, 0, none⟩ 1 c' [.bool b] hx rfl (fun j u hj => ?_) (fun u hu => ?_) (by unfold maxLen; omega) (by omega) hB fun v' w' h1 h2 _ h4 => ?_
  · have hlt : j < 1 := (List.getElem?_eq_some_iff.1 hj).1
    obtain rfl : j = 0 := by omega
    rw [Go.WideShapes.add_plain, ← hj]
    exact hc
  · rw [List.mem_singleton.1 hu]; rfl
  · refine h v' w' ?_ h2 h4
    unfold OwnBl
    rw [List.length_append, List.map_append]
    exact h1

section
variable (na nl : Nat) (fa fl : Nat → Bool)
def lostD (D : Dv) : Dv := { D.bare with lost := true }
def dsTo (D : Dv) (j i : Nat) : Dv := if i < j ∧ saysB nl fl i = true then lostD D else D
def awTo (j i : Nat) : Bool := decide (i < j) && saysB na fa i
def hereTo (j : Nat) : List Bool := (List.range j).map fun i => !saysB na fa i && !saysB nl fl i
theorem dsTo_zero (D : Dv) : dsTo nl fl D 0 = fun _ => D := by funext i; simp [dsTo]
theorem awTo_zero : awTo na fa 0 = fun _ => false := by funext i; simp [awTo]
theorem dsTo_yes (D : Dv) (j : Nat) (h : saysB nl fl j = true) : upd (dsTo nl fl D j) j (lostD D) = dsTo nl fl D (j + 1) := by
  funext i
  unfold upd dsTo
  by_cases e : i = j
  · subst e; simp [h]
  · rw [if_neg e]
    by_cases h2 : i < j
    · simp [h2, show i < j + 1 by omega]
    · simp [h2, show ¬ i < j + 1 by omega]
theorem dsTo_no (D : Dv) (j : Nat) (h : saysB nl fl j = false) : dsTo nl fl D j = dsTo nl fl D (j + 1) := by
  funext i
  unfold dsTo
  by_cases e : i = j
  · subst e; simp [h]
  · by_cases h2 : i < j
    · simp [h2, show i < j + 1 by omega]
    · simp [h2, show ¬ i < j + 1 by omega]
theorem dsTo_at (D : Dv) (j : Nat) : dsTo nl fl D j j = D := by simp [dsTo]
theorem awTo_set (j : Nat) : upd (awTo na fa j) j (saysB na fa j) = awTo na fa (j + 1) := by
  funext i
  unfold upd awTo
  by_cases e : i = j
  · subst e; simp
  · rw [if_neg e]
    by_cases h2 : i < j
    · simp [h2, show i < j + 1 by omega]
    · simp [h2, show ¬ i < j + 1 by omega]
theorem awTo_at (j : Nat) : awTo na fa (j + 1) j = saysB na fa j := by simp [awTo]
theorem hereTo_succ (j : Nat) : hereTo na nl fa fl (j + 1) = hereTo na nl fa fl j ++ [!saysB na fa j && !saysB nl fl j] := by simp [hereTo, List.range_succ]
theorem hereTo_len (j : Nat) : (hereTo na nl fa fl j).length = j := by simp [hereTo]
theorem hereB_to {D : Dv} (hD : D.lost = false) {n i : Nat} (hi : i < n) : hereB (dsTo nl fl D n) (awTo na fa n) i = (!saysB na fa i && !saysB nl fl i) := by
  unfold hereB dsTo awTo
  cases h : saysB nl fl i <;> simp [hi, hD, lostD]
end
/-- A new device of so many sectors. -/
def zeroDv (sc : Int) : Dv := (newDv sc.toNat).fresh 0

set_option maxHeartbeats 2000000 in
theorem devices_no (l : List (Int × Int)) (sc : Int) (v : Value) (w : World) (h : Meas w v l sc) (hno : 100 < l.length ∨ 200 < sc ∨ rightL l sc = false) (v1 v2 : Value) :
    Calls Tryz.prog 29 #[v, v1, v2] w fun e w' => e = .returned (.tuple #[noDevs, .slice none 0 0, .bool false]) ∧ Below w.heap.size w w' := by
  obtain ⟨a, gn, gc, rfl, hg, hs0, hs1⟩ := id h
  have hgn : l.length = gn := hg.2.1
  have hgm := hg.1
  unfold maxLen at hgm
  have b1 := boxed w (.cells #[.slice a gn gc, .int .i64 sc] 24)
  have b2 := boxed (w.alloc (.cells #[.slice a gn gc, .int .i64 sc] 24)) (.cells #[.slice none 0 0, .int .i64 0, .slice none 0 0, .slice none 0 0] 37)
  have bb := next b1 b2
  have c0 : ((w.alloc (.cells #[.slice a gn gc, .int .i64 sc] 24)).alloc (.cells #[.slice none 0 0, .int .i64 0, .slice none 0 0, .slice none 0 0] 37)).cell? ⟨w.heap.size, 0, none⟩ = some (.slice a gn gc) := by rw [b2.cell (p := ⟨w.heap.size, 0, none⟩) (by simp)]; simp
  have c1 : ((w.alloc (.cells #[.slice a gn gc, .int .i64 sc] 24)).alloc (.cells #[.slice none 0 0, .int .i64 0, .slice none 0 0, .slice none 0 0] 37)).cell? ⟨w.heap.size, 1, none⟩ = some (.int .i64 sc) := by rw [b2.cell (p := ⟨w.heap.size, 1, none⟩) (by simp)]; simp
  have hres : ((w.alloc (.cells #[.slice a gn gc, .int .i64 sc] 24)).alloc (.cells #[.slice none 0 0, .int .i64 0, .slice none 0 0, .slice none 0 0] 37)).heap[w.heap.size + 1]? = some (.cells #[.slice none 0 0, .int .i64 0, .slice none 0 0, .slice none 0 0] 37) := by
    have := heap_alloc_new (w.alloc (.cells #[.slice a gn gc, .int .i64 sc] 24)) (.cells #[.slice none 0 0, .int .i64 0, .slice none 0 0, .slice none 0 0] 37)
    simpa using this
  have hz2 : ((w.alloc (.cells #[.slice a gn gc, .int .i64 sc] 24)).alloc (.cells #[.slice none 0 0, .int .i64 0, .slice none 0 0, .slice none 0 0] 37)).heap.size = w.heap.size + 2 := by simp
  generalize hw2 : (w.alloc (.cells #[.slice a gn gc, .int .i64 sc] 24)).alloc (.cells #[.slice none 0 0, .int .i64 0, .slice none 0 0, .slice none 0 0] 37) = w2 at b2 bb c0 c1 hres hz2
  have HW2 := Lib.hid hw2
  have HM := Lib.hid (h.below bb)
  have HBB := Lib.hid bb
  have HRES := Lib.hid hres
  have HEND : Hid (∀ V, Below w2.heap.size w2 V → V.heap[w.heap.size + 1]? = some (.cells #[.slice none 0 0, .int .i64 0, .slice none 0 0, .slice none 0 0] 37)) := Lib.hid fun V hb => (hb.block _ (by omega)).trans HRES.out
  clear h hg b1 b2 bb hw2 hres
  by_cases hbig : 100 < l.length ∨ 200 < sc
  · have hre := HEND.out w2 (Below.refl _ _)
    have r0 : w2.cell? ⟨w.heap.size + 1, 0, none⟩ = some (.slice none 0 0) := by simp [World.cell?, hre]
    have r1 : w2.cell? ⟨w.heap.size + 1, 1, none⟩ = some (.int .i64 0) := by simp [World.cell?, hre]
    have r2 : w2.cell? ⟨w.heap.size + 1, 2, none⟩ = some (.slice none 0 0) := by simp [World.cell?, hre]
    have r3 : w2.cell? ⟨w.heap.size + 1, 3, none⟩ = some (.slice none 0 0) := by simp [World.cell?, hre]
    have z0 : w2.frozen? ⟨w.heap.size + 1, 0, none⟩ = false := by simp [World.frozen?, hre]
    have z1 : w2.frozen? ⟨w.heap.size + 1, 1, none⟩ = false := by simp [World.frozen?, hre]
    have z2 : w2.frozen? ⟨w.heap.size + 1, 2, none⟩ = false := by simp [World.frozen?, hre]
    have z3 : w2.frozen? ⟨w.heap.size + 1, 3, none⟩ = false := by simp [World.frozen?, hre]
    have dd : (decide (100 < (gn : Int)) || decide (200 < sc)) = true := by
      rw [Bool.or_eq_true, decide_eq_true_iff, decide_eq_true_iff]
      omega
    clear hre
    by_cases hb1 : 100 < gn
    · have d1 : decide (100 < (gn : Int)) = true := by rw [decide_eq_true_iff]; omega
      go_enter Tryz.func29, Tryz.ntmps29
      go_wp2_with (first | (rw [HW2.out]; fail))
      rw [HW2.out]
      go_wp2_with fail
      exact bodyPost_ret (v := .tuple #[noDevs, .slice none 0 0, .bool false]) (by simp [results, Tryz.results29, go_sem, r0, r1, r2, r3, noDevs]) rfl ⟨rfl, HBB.out⟩
    · have d1 : decide (100 < (gn : Int)) = false := by rw [decide_eq_false_iff_not]; omega
      have d2 : decide (200 < sc) = true := by rw [decide_eq_true_iff]; omega
      go_enter Tryz.func29, Tryz.ntmps29
      go_wp2_with (first | (rw [HW2.out]; fail))
      rw [HW2.out]
      go_wp2_with fail
      exact bodyPost_ret (v := .tuple #[noDevs, .slice none 0 0, .bool false]) (by simp [results, Tryz.results29, go_sem, r0, r1, r2, r3, noDevs]) rfl ⟨rfl, HBB.out⟩
  · have hr : rightL l sc = false := by
      rcases hno with h | h | h
      · exact absurd (.inl h) hbig
      · exact absurd (.inr h) hbig
      · exact h
    have d1 : decide (100 < (gn : Int)) = false := by rw [decide_eq_false_iff_not]; omega
    have d2 : decide (200 < sc) = false := by rw [decide_eq_false_iff_not]; omega
    have HNE := Lib.hid (new8_bad l sc _ w2 HM.out hr 0)
    unfold noDevs at HNE
    clear hr hno hbig
    go_enter Tryz.func29, Tryz.ntmps29
    go_wp2_with (first | (rw [HW2.out]; fail))
    rw [HW2.out]
    go_wp2_with fail
    refine HNE.out.mono ?_
    rintro e w3 ⟨rfl, b3⟩
    have hb4 := boxed w3 (.cells #[.slice none 0 0, .int .i64 0, .slice none 0 0, .slice none 0 0] 37)
    have b4 := next b3 hb4
    have hre := HEND.out _ b4
    have r0 : (w3.alloc (.cells #[.slice none 0 0, .int .i64 0, .slice none 0 0, .slice none 0 0] 37)).cell? ⟨w.heap.size + 1, 0, none⟩ = some (.slice none 0 0) := by unfold World.cell?; rw [hre]; rfl
    have r1 : (w3.alloc (.cells #[.slice none 0 0, .int .i64 0, .slice none 0 0, .slice none 0 0] 37)).cell? ⟨w.heap.size + 1, 1, none⟩ = some (.int .i64 0) := by unfold World.cell?; rw [hre]; rfl
    have r2 : (w3.alloc (.cells #[.slice none 0 0, .int .i64 0, .slice none 0 0, .slice none 0 0] 37)).cell? ⟨w.heap.size + 1, 2, none⟩ = some (.slice none 0 0) := by unfold World.cell?; rw [hre]; rfl
    have r3 : (w3.alloc (.cells #[.slice none 0 0, .int .i64 0, .slice none 0 0, .slice none 0 0] 37)).cell? ⟨w.heap.size + 1, 3, none⟩ = some (.slice none 0 0) := by unfold World.cell?; rw [hre]; rfl
    have z0 : (w3.alloc (.cells #[.slice none 0 0, .int .i64 0, .slice none 0 0, .slice none 0 0] 37)).frozen? ⟨w.heap.size + 1, 0, none⟩ = false := by unfold World.frozen?; rw [hre]; rfl
    have z1 : (w3.alloc (.cells #[.slice none 0 0, .int .i64 0, .slice none 0 0, .slice none 0 0] 37)).frozen? ⟨w.heap.size + 1, 1, none⟩ = false := by unfold World.frozen?; rw [hre]; rfl
    have z2 : (w3.alloc (.cells #[.slice none 0 0, .int .i64 0, .slice none 0 0, .slice none 0 0] 37)).frozen? ⟨w.heap.size + 1, 2, none⟩ = false := by unfold World.frozen?; rw [hre]; rfl
    have z3 : (w3.alloc (.cells #[.slice none 0 0, .int .i64 0, .slice none 0 0, .slice none 0 0] 37)).frozen? ⟨w.heap.size + 1, 3, none⟩ = false := by unfold World.frozen?; rw [hre]; rfl
    have HB4 := Lib.hid b4
    have HRE := Lib.hid hre
    clear b3 hb4 b4 hre c0 c1
    go_wp2_with fail
    exact bodyPost_ret (v := .tuple #[noDevs, .slice none 0 0, .bool false]) (by simp [results, Tryz.results29, go_sem, r0, r1, r2, r3, noDevs]) rfl ⟨rfl, ((((HBB.out.trans (HB4.out.mono HBB.out.size)).setCell (p := ⟨w.heap.size + 1, 0, none⟩) (Nat.le_succ _) _).setCell (p := ⟨w.heap.size + 1, 1, none⟩) (Nat.le_succ _) _).setCell (p := ⟨w.heap.size + 1, 2, none⟩) (Nat.le_succ _) _).setCell (p := ⟨w.heap.size + 1, 3, none⟩) (Nat.le_succ _) _⟩
set_option maxHeartbeats 4000000 in
theorem devices_ok (l : List (Int × Int)) (sc : Int) (v : Value) (w : World) (h : Meas w v l sc) (hl : l.length ≤ 100) (hs : sc ≤ 200) (hr : RightM l sc) (aa al : Option Addr) (na ca nl cl : Nat) (fa fl : Nat → Bool) (hA : Bl w aa na fa) (hL : Bl w al nl fl) :
    Calls Tryz.prog 29 #[v, .slice aa na ca, .slice al nl cl] w fun e w' => ∃ (x : Px) (hv : Value), e = .returned (.tuple #[x.val, hv, .bool true]) ∧ x.sc = sc ∧
      St w.heap.size w' x l (dsTo nl fl (zeroDv sc) x.n) (awTo na fa x.n) 0 (fun w' => OwnBl w.heap.size w' hv (hereTo na nl fa fl x.n)) ∧ Below w.heap.size w w' := by
  obtain ⟨a, gn, gc, rfl, hg, hs0, hs1⟩ := id h
  have hgn : l.length = gn := hg.2.1
  have b1 := boxed w (.cells #[.slice a gn gc, .int .i64 sc] 24)
  have b2 := boxed (w.alloc (.cells #[.slice a gn gc, .int .i64 sc] 24)) (.cells #[.slice none 0 0, .int .i64 0, .slice none 0 0, .slice none 0 0] 37)
  have bb := next b1 b2
  have c0 : ((w.alloc (.cells #[.slice a gn gc, .int .i64 sc] 24)).alloc (.cells #[.slice none 0 0, .int .i64 0, .slice none 0 0, .slice none 0 0] 37)).cell? ⟨w.heap.size, 0, none⟩ = some (.slice a gn gc) := by rw [b2.cell (p := ⟨w.heap.size, 0, none⟩) (by simp)]; simp
  have c1 : ((w.alloc (.cells #[.slice a gn gc, .int .i64 sc] 24)).alloc (.cells #[.slice none 0 0, .int .i64 0, .slice none 0 0, .slice none 0 0] 37)).cell? ⟨w.heap.size, 1, none⟩ = some (.int .i64 sc) := by rw [b2.cell (p := ⟨w.heap.size, 1, none⟩) (by simp)]; simp
  have hres : ((w.alloc (.cells #[.slice a gn gc, .int .i64 sc] 24)).alloc (.cells #[.slice none 0 0, .int .i64 0, .slice none 0 0, .slice none 0 0] 37)).heap[w.heap.size + 1]? = some (.cells #[.slice none 0 0, .int .i64 0, .slice none 0 0, .slice none 0 0] 37) := by
    have := heap_alloc_new (w.alloc (.cells #[.slice a gn gc, .int .i64 sc] 24)) (.cells #[.slice none 0 0, .int .i64 0, .slice none 0 0, .slice none 0 0] 37)
    simpa using this
  have hz2 : ((w.alloc (.cells #[.slice a gn gc, .int .i64 sc] 24)).alloc (.cells #[.slice none 0 0, .int .i64 0, .slice none 0 0, .slice none 0 0] 37)).heap.size = w.heap.size + 2 := by simp
  generalize hw2 : (w.alloc (.cells #[.slice a gn gc, .int .i64 sc] 24)).alloc (.cells #[.slice none 0 0, .int .i64 0, .slice none 0 0, .slice none 0 0] 37) = w2 at b2 bb c0 c1 hres hz2
  have HW2 := Lib.hid hw2
  have HNE := Lib.hid (new8_ok l sc _ w2 (h.below bb) hr 0)
  have HAA := Lib.hid (hA.below bb)
  have HLL := Lib.hid (hL.below bb)
  have HBB := Lib.hid bb
  have HRES := Lib.hid hres
  have hna := hA.1
  have hnl := hL.1
  unfold maxLen at hna hnl
  clear h hg b1 b2 bb hr hw2 hres hA hL
  go_enter Tryz.func29, Tryz.ntmps29
  go_wp2_with (first | (rw [HW2.out]; fail))
  rw [HW2.out]
  go_wp2_with fail
  refine HNE.out.mono ?_
  rintro e w3 ⟨x, rfl, rfl, h3, b3⟩
  have hbx := boxed w3 (.cells #[.slice x.ga x.gn x.gc, .int .i64 x.sc, .slice (some ⟨x.lb, 0, none⟩) x.n x.n, .slice (some ⟨x.ab, 0, none⟩) x.n x.n] 37)
  have HS4 := Lib.hid (h3.add hbx (BoxX.new w3 x _ (Nat.le_refl _) 37))
  have HB4 := Lib.hid (next b3 hbx)
  obtain ⟨_, h32⟩ := h3.right.1.devs h3.right.2
  obtain ⟨_, f0, f1, f2, f3⟩ := HS4.out.out
  clear h3 b3 hbx c0 c1
  unfold Px.val
  have hDG : DGood x.sc 0 (zeroDv x.sc) := by
    have h24 := HS4.out.right.1.s0
    refine ⟨rfl, ?_, Nat.zero_le _⟩
    show ((List.replicate (newDv x.sc.toNat).med.length (fullS 0)).length : Int) = x.sc
    rw [List.length_replicate]
    show ((List.replicate x.sc.toNat (fullS 0)).length : Int) = x.sc
    rw [List.length_replicate]
    omega
  have HDG := Lib.hid hDG
  have HNR := Lib.hid HS4.out.right
  have HRX : Hid (∀ V, Below w2.heap.size w2 V → V.heap[w.heap.size + 1]? = some (.cells #[.slice none 0 0, .int .i64 0, .slice none 0 0, .slice none 0 0] 37)) := Lib.hid fun V hb => (hb.block _ (by omega)).trans HRES.out
  clear hDG HRES
  go_wp2_with fail
  generalize w3.alloc (.cells #[.slice x.ga x.gn x.gc, .int .i64 x.sc, .slice (some ⟨x.lb, 0, none⟩) x.n x.n, .slice (some ⟨x.ab, 0, none⟩) x.n x.n] 37) = w4 at *
  generalize w3.heap.size = bx at *
  clear f0 f1 f2 f3
  go_loopw [11, 12] (fun hv i wr => ∃ j : Nat, j ≤ x.n ∧ i = .int .i64 j ∧ OwnBl w2.heap.size wr hv (hereTo na nl fa fl j) ∧ StX (fun k => hv.ownBlock = some k) w2.heap.size wr x l (dsTo nl fl (zeroDv x.sc) j) (awTo na fa j) 0 (fun w' => True ∧ BoxX x bx w') ∧ Below w2.heap.size w2 wr) (fun _ i _ => x.n - (intOf i).toNat)
  case atStart =>
    refine ⟨0, Nat.zero_le _, rfl, World.ownsRow_nil _ _ _ _, ?_, HB4.out⟩
    rw [dsTo_zero, awTo_zero]
    exact HS4.out.sub (fun k hk => by simp [Value.ownBlock] at hk)
  case round =>
    obtain ⟨j, hj, rfl, ho, hst, hbw⟩ := hrel
    have HO := Lib.hid ho
    have HS := Lib.hid hst
    have HB := Lib.hid hbw
    clear ho hst hbw
    obtain ⟨_, x0, x1, x2, x3⟩ := HS.out.out
    by_cases hlt : j < x.n
    · have hawj := HS.out.away hlt
      have a0 := hawj.1
      have a1 := hawj.2
      clear hawj
      have HM := Lib.hid ((HS.out.below (Below.refl _ wr).drew).mark hlt (saysB na fa j))
      have q1 : (0 : Int) ≤ (j : Int) := by omega
      have q2 : (j : Int) < (x.n : Int) := by omega
      go_upto_region 10 with (fail)
      go_cut [12] (fun s12 wc => s12 = .int .i64 (j : Int) ∧ wc = wr.drew.setCell ⟨x.ab, j, none⟩ (.bool (saysB na fa j)))
      case first =>
        by_cases hja : j < na
        · obtain ⟨gA, oA, rfl, hgA, hcA⟩ := HAA.out.2 j hja
          have hcA' := (HB.out.cell (p := ⟨gA, oA + j, none⟩) hgA).trans hcA
          have HE : Hid (saysB na fa j = fa j) := Lib.hid (by simp [saysB, hja])
          have d1 : decide ((j : Int) < (na : Int)) = true := by simpa using hja
          have q3 : (j : Int) < (na : Int) := by omega
          clear hcA
          refine wp_region_still_tail 14 (by kernel_rfl) (by kernel_rfl) ?_
          simp only [List.take_succ_cons, List.take_zero, List.drop_succ_cons, List.drop_zero]
          repeat still_step
          refine wpStill_nil ?_
          go_wp2_with fail
          go_meet
          exact ⟨rfl, by rw [HE.out]; rfl⟩
        · have HE : Hid (saysB na fa j = false) := Lib.hid (by simp [saysB, hja])
          have d1 : decide ((j : Int) < (na : Int)) = false := by simpa using hja
          refine wp_region_still_tail 14 (by kernel_rfl) (by kernel_rfl) ?_
          simp only [List.take_succ_cons, List.take_zero, List.drop_succ_cons, List.drop_zero]
          repeat still_step
          refine wpStill_nil ?_
          go_wp2_with fail
          go_meet
          exact ⟨rfl, by rw [HE.out]; rfl⟩
      case rest =>
        obtain ⟨rfl, hwc⟩ := hcut
        have HM1 : Hid (StX (fun k => u11.ownBlock = some k) w2.heap.size wc x l (dsTo nl fl (zeroDv x.sc) j) (awTo na fa (j + 1)) 0 (fun w' => True ∧ BoxX x bx w')) := Lib.hid (by rw [hwc, ← awTo_set]; exact HM.out.1)
        have HB1 : Hid (Below w2.heap.size w2 wc) := Lib.hid (by rw [hwc]; exact HB.out.drew.trans HM.out.2.1)
        have HO1 : Hid (OwnBl w2.heap.size wc u11 (hereTo na nl fa fl j)) := Lib.hid (by rw [hwc]; exact (HO.out.below (Below.refl _ wr).drew).same fun k hk => HM.out.2.2 k hk)
        clear hwc x0 x1 x2 x3 a0 a1 HM HS HO HB
        obtain ⟨_, x0, x1, x2, x3⟩ := HM1.out.out
        have a0 := (HM1.out.away hlt).1
        rw [awTo_at] at a0
        obtain ⟨V, hV⟩ : ∃ V, saysB na fa j = V := ⟨_, rfl⟩
        have HV := Lib.hid hV
        rw [hV] at a0
        clear hV
        by_cases hjl : j < nl
        · obtain ⟨gL, oL, rfl, hgL, hcL⟩ := HLL.out.2 j hjl
          have hcL' := (HB1.out.cell (p := ⟨gL, oL + j, none⟩) hgL).trans hcL
          have d1 : decide ((j : Int) < (nl : Int)) = true := by simpa using hjl
          have q3 : (j : Int) < (nl : Int) := by omega
          cases hfl : fl j with
          | true =>
            have HLT : Hid (saysB nl fl j = true) := Lib.hid (by simp [saysB, hjl, hfl])
            rw [hfl] at hcL hcL'
            obtain ⟨b, f, cb, hd, hdid⟩ := HM1.out.did hlt
            rw [dsTo_at] at hd
            have HLO := Lib.hid (lose_any b (zeroDv x.sc) f wc hd)
            have HDID := Lib.hid hdid
            clear hd hdid hfl
            go_wp2_with fail
            refine HLO.out.mono ?_
            rintro e w5 ⟨rfl, hd5⟩
            obtain ⟨h5, b5, _, hX5⟩ := HDID.out _ w5 0 hd5 ⟨rfl, HDG.out.len, Nat.zero_le _⟩ (Nat.le_refl _)
            have HS5 : Hid (StX (fun k => u11.ownBlock = some k) w2.heap.size w5 x l (dsTo nl fl (zeroDv x.sc) (j + 1)) (awTo na fa (j + 1)) 0 (fun w' => True ∧ BoxX x bx w')) := Lib.hid (by rw [← dsTo_yes _ _ _ _ HLT.out]; exact h5)
            have HB5 := Lib.hid (HB1.out.trans b5)
            have HO5 := Lib.hid (HO1.out.same hX5)
            have hcL5 := (HB5.out.cell (p := ⟨gL, oL + j, none⟩) hgL).trans hcL
            clear h5 b5 hX5 hd5 hcL' hcL x0 x1 x2 x3 a0 HLO HDID HM1 HB1 HO1 cb
            obtain ⟨_, x0, x1, x2, x3⟩ := HS5.out.out
            have a0 := (HS5.out.away hlt).1
            rw [awTo_at, HV.out] at a0
            cases V with
            | true =>
              go_wp2_with (at_builtin; refine wpList_append_bool _ rfl _ _ rfl w2.heap.size u11 (hereTo na nl fa fl j) false _ _ rfl rfl (HO5.out.below (boxed _ _)) (by simp) (by simp; have := HB5.out.size; omega) (by rw [hereTo_len]; omega) ?_; intro v9 w9 hO9 hg9 hv9)
              have tX : Turn (fun k => u11.ownBlock = some k) (w5.alloc (.cells #[.bool false] 4)) w9 := grown_turn hg9 fun k hk => hk
              have HS9 : Hid (StX (fun k => v9.ownBlock = some k) w2.heap.size w9 x l (dsTo nl fl (zeroDv x.sc) (j + 1)) (awTo na fa (j + 1)) 0 (fun w' => True ∧ BoxX x bx w')) := Lib.hid ((HS5.out.below (boxed _ _)).turnX tX (fun k hk => by rcases hv9 with e | e; exact .inl (by rw [← e]; exact hk); exact .inr (by rw [e] at hk; cases hk; exact Nat.le_refl _)) (fun k hk => (World.ownsRow.lt hO9 k hk).2) (by simp; have := HB5.out.size; omega))
              have HO9 : Hid (OwnBl w2.heap.size w9 v9 (hereTo na nl fa fl (j + 1))) := Lib.hid (by rw [hereTo_succ, HV.out, HLT.out]; exact hO9)
              have HB9 : Hid (Below w2.heap.size w2 w9) := Lib.hid ((HB5.out.trans ((boxed _ _).mono HB5.out.size)).trans (tX.below (fun k hk => (World.ownsRow.lt HO5.out k hk).1) (by simp; have := HB5.out.size; omega)))
              clear hO9 hg9 hv9 tX
              go_wp2
              go_roundw
              case rel => exact ⟨j + 1, by omega, by go_num, HO9.out, HS9.out, HB9.out⟩
              case measure => simp [intOf]; omega
            | false =>
              go_wp2_with (at_builtin; refine wpList_append_bool _ rfl _ _ rfl w2.heap.size u11 (hereTo na nl fa fl j) false _ _ rfl rfl (HO5.out.below (boxed _ _)) (by simp) (by simp; have := HB5.out.size; omega) (by rw [hereTo_len]; omega) ?_; intro v9 w9 hO9 hg9 hv9)
              have tX : Turn (fun k => u11.ownBlock = some k) (w5.alloc (.cells #[.bool false] 4)) w9 := grown_turn hg9 fun k hk => hk
              have HS9 : Hid (StX (fun k => v9.ownBlock = some k) w2.heap.size w9 x l (dsTo nl fl (zeroDv x.sc) (j + 1)) (awTo na fa (j + 1)) 0 (fun w' => True ∧ BoxX x bx w')) := Lib.hid ((HS5.out.below (boxed _ _)).turnX tX (fun k hk => by rcases hv9 with e | e; exact .inl (by rw [← e]; exact hk); exact .inr (by rw [e] at hk; cases hk; exact Nat.le_refl _)) (fun k hk => (World.ownsRow.lt hO9 k hk).2) (by simp; have := HB5.out.size; omega))
              have HO9 : Hid (OwnBl w2.heap.size w9 v9 (hereTo na nl fa fl (j + 1))) := Lib.hid (by rw [hereTo_succ, HV.out, HLT.out]; exact hO9)
              have HB9 : Hid (Below w2.heap.size w2 w9) := Lib.hid ((HB5.out.trans ((boxed _ _).mono HB5.out.size)).trans (tX.below (fun k hk => (World.ownsRow.lt HO5.out k hk).1) (by simp; have := HB5.out.size; omega)))
              clear hO9 hg9 hv9 tX
              go_wp2
              go_roundw
              case rel => exact ⟨j + 1, by omega, by go_num, HO9.out, HS9.out, HB9.out⟩
              case measure => simp [intOf]; omega
          | false =>
            have HLF : Hid (saysB nl fl j = false) := Lib.hid (by simp [saysB, hfl])
            rw [hfl] at hcL hcL'
            have HS5 : Hid (StX (fun k => u11.ownBlock = some k) w2.heap.size wc x l (dsTo nl fl (zeroDv x.sc) (j + 1)) (awTo na fa (j + 1)) 0 (fun w' => True ∧ BoxX x bx w')) := Lib.hid (by rw [← dsTo_no _ _ _ _ HLF.out]; exact HM1.out)
            clear hcL hfl
            cases V with
            | true =>
              go_wp2_with (at_builtin; refine wpList_append_bool _ rfl _ _ rfl w2.heap.size u11 (hereTo na nl fa fl j) false _ _ rfl rfl (HO1.out.below (boxed _ _)) (by simp) (by simp; have := HB1.out.size; omega) (by rw [hereTo_len]; omega) ?_; intro v9 w9 hO9 hg9 hv9)
              have tX : Turn (fun k => u11.ownBlock = some k) (wc.alloc (.cells #[.bool false] 4)) w9 := grown_turn hg9 fun k hk => hk
              have HS9 : Hid (StX (fun k => v9.ownBlock = some k) w2.heap.size w9 x l (dsTo nl fl (zeroDv x.sc) (j + 1)) (awTo na fa (j + 1)) 0 (fun w' => True ∧ BoxX x bx w')) := Lib.hid ((HS5.out.below (boxed _ _)).turnX tX (fun k hk => by rcases hv9 with e | e; exact .inl (by rw [← e]; exact hk); exact .inr (by rw [e] at hk; cases hk; exact Nat.le_refl _)) (fun k hk => (World.ownsRow.lt hO9 k hk).2) (by simp; have := HB1.out.size; omega))
              have HO9 : Hid (OwnBl w2.heap.size w9 v9 (hereTo na nl fa fl (j + 1))) := Lib.hid (by rw [hereTo_succ, HV.out, HLF.out]; exact hO9)
              have HB9 : Hid (Below w2.heap.size w2 w9) := Lib.hid ((HB1.out.trans ((boxed _ _).mono HB1.out.size)).trans (tX.below (fun k hk => (World.ownsRow.lt HO1.out k hk).1) (by simp; have := HB1.out.size; omega)))
              clear hO9 hg9 hv9 tX
              go_wp2
              go_roundw
              case rel => exact ⟨j + 1, by omega, by go_num, HO9.out, HS9.out, HB9.out⟩
              case measure => simp [intOf]; omega
            | false =>
              go_wp2_with (at_builtin; refine wpList_append_bool _ rfl _ _ rfl w2.heap.size u11 (hereTo na nl fa fl j) true _ _ rfl rfl (HO1.out.below (boxed _ _)) (by simp) (by simp; have := HB1.out.size; omega) (by rw [hereTo_len]; omega) ?_; intro v9 w9 hO9 hg9 hv9)
              have tX : Turn (fun k => u11.ownBlock = some k) (wc.alloc (.cells #[.bool true] 4)) w9 := grown_turn hg9 fun k hk => hk
              have HS9 : Hid (StX (fun k => v9.ownBlock = some k) w2.heap.size w9 x l (dsTo nl fl (zeroDv x.sc) (j + 1)) (awTo na fa (j + 1)) 0 (fun w' => True ∧ BoxX x bx w')) := Lib.hid ((HS5.out.below (boxed _ _)).turnX tX (fun k hk => by rcases hv9 with e | e; exact .inl (by rw [← e]; exact hk); exact .inr (by rw [e] at hk; cases hk; exact Nat.le_refl _)) (fun k hk => (World.ownsRow.lt hO9 k hk).2) (by simp; have := HB1.out.size; omega))
              have HO9 : Hid (OwnBl w2.heap.size w9 v9 (hereTo na nl fa fl (j + 1))) := Lib.hid (by rw [hereTo_succ, HV.out, HLF.out]; exact hO9)
              have HB9 : Hid (Below w2.heap.size w2 w9) := Lib.hid ((HB1.out.trans ((boxed _ _).mono HB1.out.size)).trans (tX.below (fun k hk => (World.ownsRow.lt HO1.out k hk).1) (by simp; have := HB1.out.size; omega)))
              clear hO9 hg9 hv9 tX
              go_wp2
              go_roundw
              case rel => exact ⟨j + 1, by omega, by go_num, HO9.out, HS9.out, HB9.out⟩
              case measure => simp [intOf]; omega
        · have HLF : Hid (saysB nl fl j = false) := Lib.hid (by simp [saysB, hjl])
          have d1 : decide ((j : Int) < (nl : Int)) = false := by simpa using hjl
          have HS5 : Hid (StX (fun k => u11.ownBlock = some k) w2.heap.size wc x l (dsTo nl fl (zeroDv x.sc) (j + 1)) (awTo na fa (j + 1)) 0 (fun w' => True ∧ BoxX x bx w')) := Lib.hid (by rw [← dsTo_no _ _ _ _ HLF.out]; exact HM1.out)
          cases V with
          | true =>
            go_wp2_with (at_builtin; refine wpList_append_bool _ rfl _ _ rfl w2.heap.size u11 (hereTo na nl fa fl j) false _ _ rfl rfl (HO1.out.below (boxed _ _)) (by simp) (by simp; have := HB1.out.size; omega) (by rw [hereTo_len]; omega) ?_; intro v9 w9 hO9 hg9 hv9)
            have tX : Turn (fun k => u11.ownBlock = some k) (wc.alloc (.cells #[.bool false] 4)) w9 := grown_turn hg9 fun k hk => hk
            have HS9 : Hid (StX (fun k => v9.ownBlock = some k) w2.heap.size w9 x l (dsTo nl fl (zeroDv x.sc) (j + 1)) (awTo na fa (j + 1)) 0 (fun w' => True ∧ BoxX x bx w')) := Lib.hid ((HS5.out.below (boxed _ _)).turnX tX (fun k hk => by rcases hv9 with e | e; exact .inl (by rw [← e]; exact hk); exact .inr (by rw [e] at hk; cases hk; exact Nat.le_refl _)) (fun k hk => (World.ownsRow.lt hO9 k hk).2) (by simp; have := HB1.out.size; omega))
            have HO9 : Hid (OwnBl w2.heap.size w9 v9 (hereTo na nl fa fl (j + 1))) := Lib.hid (by rw [hereTo_succ, HV.out, HLF.out]; exact hO9)
            have HB9 : Hid (Below w2.heap.size w2 w9) := Lib.hid ((HB1.out.trans ((boxed _ _).mono HB1.out.size)).trans (tX.below (fun k hk => (World.ownsRow.lt HO1.out k hk).1) (by simp; have := HB1.out.size; omega)))
            clear hO9 hg9 hv9 tX
            go_wp2
            go_roundw
            case rel => exact ⟨j + 1, by omega, by go_num, HO9.out, HS9.out, HB9.out⟩
            case measure => simp [intOf]; omega
          | false =>
            go_wp2_with (at_builtin; refine wpList_append_bool _ rfl _ _ rfl w2.heap.size u11 (hereTo na nl fa fl j) true _ _ rfl rfl (HO1.out.below (boxed _ _)) (by simp) (by simp; have := HB1.out.size; omega) (by rw [hereTo_len]; omega) ?_; intro v9 w9 hO9 hg9 hv9)
            have tX : Turn (fun k => u11.ownBlock = some k) (wc.alloc (.cells #[.bool true] 4)) w9 := grown_turn hg9 fun k hk => hk
            have HS9 : Hid (StX (fun k => v9.ownBlock = some k) w2.heap.size w9 x l (dsTo nl fl (zeroDv x.sc) (j + 1)) (awTo na fa (j + 1)) 0 (fun w' => True ∧ BoxX x bx w')) := Lib.hid ((HS5.out.below (boxed _ _)).turnX tX (fun k hk => by rcases hv9 with e | e; exact .inl (by rw [← e]; exact hk); exact .inr (by rw [e] at hk; cases hk; exact Nat.le_refl _)) (fun k hk => (World.ownsRow.lt hO9 k hk).2) (by simp; have := HB1.out.size; omega))
            have HO9 : Hid (OwnBl w2.heap.size w9 v9 (hereTo na nl fa fl (j + 1))) := Lib.hid (by rw [hereTo_succ, HV.out, HLF.out]; exact hO9)
            have HB9 : Hid (Below w2.heap.size w2 w9) := Lib.hid ((HB1.out.trans ((boxed _ _).mono HB1.out.size)).trans (tX.below (fun k hk => (World.ownsRow.lt HO1.out k hk).1) (by simp; have := HB1.out.size; omega)))
            clear hO9 hg9 hv9 tX
            go_wp2
            go_roundw
            case rel => exact ⟨j + 1, by omega, by go_num, HO9.out, HS9.out, HB9.out⟩
            case measure => simp [intOf]; omega
    · obtain rfl : j = x.n := by omega
      have hre := HRX.out wr HB.out
      have r0 : wr.cell? ⟨w.heap.size + 1, 0, none⟩ = some (.slice none 0 0) := by simp [World.cell?, hre]
      have r1 : wr.cell? ⟨w.heap.size + 1, 1, none⟩ = some (.int .i64 0) := by simp [World.cell?, hre]
      have r2 : wr.cell? ⟨w.heap.size + 1, 2, none⟩ = some (.slice none 0 0) := by simp [World.cell?, hre]
      have r3 : wr.cell? ⟨w.heap.size + 1, 3, none⟩ = some (.slice none 0 0) := by simp [World.cell?, hre]
      have z0 : wr.frozen? ⟨w.heap.size + 1, 0, none⟩ = false := by simp [World.frozen?, hre]
      have z1 : wr.frozen? ⟨w.heap.size + 1, 1, none⟩ = false := by simp [World.frozen?, hre]
      have z2 : wr.frozen? ⟨w.heap.size + 1, 2, none⟩ = false := by simp [World.frozen?, hre]
      have z3 : wr.frozen? ⟨w.heap.size + 1, 3, none⟩ = false := by simp [World.frozen?, hre]
      have HW := Lib.hid (sets4 (.slice x.ga x.gn x.gc) (.int .i64 x.sc) (.slice (some ⟨x.lb, 0, none⟩) x.n x.n) (.slice (some ⟨x.ab, 0, none⟩) x.n x.n) hre)
      have HT := Lib.hid (turn4 wr (w.heap.size + 1) (.slice x.ga x.gn x.gc) (.int .i64 x.sc) (.slice (some ⟨x.lb, 0, none⟩) x.n x.n) (.slice (some ⟨x.ab, 0, none⟩) x.n x.n))
      clear hre
      go_wp2_with fail
      generalize (((wr.setCell ⟨w.heap.size + 1, 0, none⟩ (.slice x.ga x.gn x.gc)).setCell ⟨w.heap.size + 1, 1, none⟩ (.int .i64 x.sc)).setCell ⟨w.heap.size + 1, 2, none⟩ (.slice (some ⟨x.lb, 0, none⟩) x.n x.n)).setCell ⟨w.heap.size + 1, 3, none⟩ (.slice (some ⟨x.ab, 0, none⟩) x.n x.n) = W at HW HT ⊢
      have hW := HW.out
      have s0 : W.cell? ⟨w.heap.size + 1, 0, none⟩ = some (.slice x.ga x.gn x.gc) := by simp [World.cell?, hW]
      have s1 : W.cell? ⟨w.heap.size + 1, 1, none⟩ = some (.int .i64 x.sc) := by simp [World.cell?, hW]
      have s2 : W.cell? ⟨w.heap.size + 1, 2, none⟩ = some (.slice (some ⟨x.lb, 0, none⟩) x.n x.n) := by simp [World.cell?, hW]
      have s3 : W.cell? ⟨w.heap.size + 1, 3, none⟩ = some (.slice (some ⟨x.ab, 0, none⟩) x.n x.n) := by simp [World.cell?, hW]
      clear hW
      refine bodyPost_ret (v := .tuple #[.agg #[.slice x.ga x.gn x.gc, .int .i64 x.sc, .slice (some ⟨x.lb, 0, none⟩) x.n x.n, .slice (some ⟨x.ab, 0, none⟩) x.n x.n], u11, .bool true]) (by simp [results, Tryz.results29, go_sem, s0, s1, s2, s3]) rfl ⟨x, u11, rfl, rfl, ?_, ?_⟩
      · have hzs : wr.heap.size ≤ W.heap.size := HT.out.size
        have hS := HS.out.old (w' := W) (HT.out.mono fun k hk => by omega)
        have hO : OwnBl w.heap.size W u11 (hereTo na nl fa fl x.n) := by
          have h1 : OwnBl w2.heap.size W u11 (hereTo na nl fa fl x.n) := HO.out.same fun k hk => HT.out.block k (World.ownsRow.lt HO.out k hk).2 fun e => by have := (World.ownsRow.lt HO.out k hk).1; omega
          refine ⟨h1.1, ?_⟩
          rcases h1.2 with hn | ⟨g, cap, cur, e, hB, rest⟩
          · exact .inl hn
          · exact .inr ⟨g, cap, cur, e, by omega, rest⟩
        have hR := hS.release (Q := fun w' => OwnBl w.heap.size w' u11 (hereTo na nl fa fl x.n)) fun w' _ hk => hO.same fun k hb => hk k hb
        exact (hR.mono fun w' h => h.2).lower (by omega)
      · exact HBB.out.trans (((HB.out.mono (by omega)).trans (HT.out.below (B := w.heap.size) (fun k hk => by omega) (by have := HB.out.size; omega))))
end Go.Proofs.YtiffkbmcikiioaaGreat
