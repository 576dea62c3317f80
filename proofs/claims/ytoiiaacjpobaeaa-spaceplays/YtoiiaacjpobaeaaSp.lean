/-
  The document's marks (polderref11): Free, Full, Set.
-/
import Derived.Test.YtoiiaacjpobaeaaSl
import Derived.StillTailTactics
namespace Go.Proofs.Ytoiiaacjpobaeaa
set_option maxRecDepth 100000
open Go.RowKit

/-- The marks us are of the runs l. -/
structure Um (z : Int) (l : List (Int × Int)) (us : List Bool) : Prop where
  len : (us.length : Int) = z
  is : ∀ i (h : i < us.length), us[i] = true ↔ inR l (i : Int)
def OwnB (B : Nat) (w : World) (v : Value) (l : List Bool) : Prop := w.ownsRow B 4 1 v l.length (l.map Value.bool)
theorem OwnB.of {B : Nat} {w w' : World} {v : Value} {l : List Bool} (h : OwnB B w v l) (hb : ∀ k, v.ownBlock = some k → w'.heap[k]? = w.heap[k]?) : OwnB B w' v l := by
  refine ⟨h.1, ?_⟩
  rcases h.2 with hn | ⟨g, cap, cur, rfl, hB, hg, rest⟩
  · exact .inl hn
  · exact .inr ⟨g, cap, cur, rfl, hB, (hb g rfl).trans hg, rest⟩
theorem OwnB.below {B : Nat} {w w' : World} {v : Value} {l : List Bool} (h : OwnB B w v l) (hb : Below w.heap.size w w') : OwnB B w' v l := h.of fun k hk => hb.block k (World.ownsRow.lt h k hk).2
theorem OwnB.keep {B B' : Nat} {w w' : World} {v : Value} {l : List Bool} (h : OwnB B w v l) (hk : KeptX B' (ownX v) w w') : OwnB B w' v l := h.of fun k hk' => hk.kept k hk'
theorem OwnB.lower {B B' : Nat} {w : World} {v : Value} {l : List Bool} (h : OwnB B w v l) (hB : B' ≤ B) : OwnB B' w v l := by
  refine ⟨h.1, ?_⟩
  rcases h.2 with hn | ⟨g, cap, cur, rfl, hB', hg, rest⟩
  · exact .inl hn
  · exact .inr ⟨g, cap, cur, rfl, Nat.le_trans hB hB', hg, rest⟩
/-- Where marks lie. -/
structure MarksAt (w : World) (g n : Nat) (us : List Bool) : Prop where
  lt : g < w.heap.size
  len : us.length = n
  at_ : ∀ i (h : i < us.length), w.cell? ⟨g, i, none⟩ = some (.bool us[i])
theorem OwnB.at_ {B : Nat} {w : World} {v : Value} {l : List Bool} (h : OwnB B w v l) (hl : 0 < l.length) : ∃ g n c, v = .slice (some ⟨g, 0, none⟩) n c ∧ MarksAt w g n l := by
  have hcells := fun g hg => World.ownsRow.cells (g := g) h hg
  rcases h.2 with ⟨_, h0⟩ | ⟨g, cap, cur, rfl, hB, hb, hnc, _⟩
  · omega
  · refine ⟨g, _, cap, rfl, (Array.getElem?_eq_some_iff.1 hb).1, rfl, fun i hi => ?_⟩
    have e := hcells g rfl i (.bool l[i]) (by rw [List.getElem?_map, List.getElem?_eq_getElem hi]; rfl)
    rwa [add_plain', Nat.zero_add] at e
theorem MarksAt.next {w w' : World} {g n : Nat} {us : List Bool} (h : MarksAt w g n us) (hb : Below w.heap.size w w') : MarksAt w' g n us := ⟨Nat.lt_of_lt_of_le h.lt hb.size, h.len, fun i hi => (hb.cell (p := ⟨g, i, none⟩) h.lt).trans (h.at_ i hi)⟩
theorem info_bool : ∃ i, Try.prog.info? 4 = some i ∧ i.zero = some (.bool false) ∧ i.size = 1 ∧ i.bytes = 1 := info_parts (by kernel_rfl)
theorem wpList_append_bool {ops : Array Oper} {rest : List Oper} {o : Oper} {a : Act} {Q : Exit → Act → World → Prop} (w : World) (hgd : o.guard = none) (s x : Operand)
    (ho : o.op = .call { callee := .builtin .append, args := #[s, x], argTypes := #[41, 41] }) (B : Nat) (v : Value) (l : List Bool) (b : Bool) (g c' : Nat) (hs : a.eval s = v) (hx : a.eval x = .slice (some ⟨g, 0, none⟩) 1 c')
    (hv : OwnB B w v l) (hc : w.cell? ⟨g, 0, none⟩ = some (.bool b)) (hB : B ≤ w.heap.size) (hN : l.length ≤ 100000)
    (h : ∀ v' w', OwnB B w' v' (l ++ [b]) → Below B w w' → wpList Try.prog ops Q rest (a.put o.dst v') w') : wpList Try.prog ops Q (o :: rest) a w := by
  obtain ⟨i, hi, hz, hsz, hb⟩ := info_bool
  refine wpList_append_own_at w hgd s x _ ho B 4 i _ 1 1 Try.underlying41 hi hz hsz hb rfl (by decide) v l.length (l.map Value.bool) hs hv ⟨g, 0, none⟩ 1 c' [.bool b] hx rfl (fun j u hj => ?_) (fun u hu => ?_) (by unfold maxLen; omega) (by omega) hB fun v' w' h1 h2 _ _ => ?_
  · have hlt : j < 1 := (List.getElem?_eq_some_iff.1 hj).1
    obtain rfl : j = 0 := by omega
    rw [add_plain', ← hj]
    exact hc
  · rw [List.mem_singleton.1 hu]; rfl
  · refine h v' w' ?_ ((Below.refl B w).grown h2 hB fun k hk => (World.ownsRow.lt hv k hk).1)
    unfold OwnB
    rw [List.length_append, List.map_append]
    exact h1
/-- A map is apart from marks: their blocks hold unlike things. -/
theorem MapIn.apartB {B C : Nat} {x : Nat → Prop} {w : World} {b : Nat} {z : Int} {l : List (Int × Int)} {v : Value} {T : List Bool} (h : MapIn B x w b z l) (hO : OwnB C w v T) : MapIn B (ownX v) w b z l := by
  obtain ⟨u, h⟩ := h
  rcases hO.2 with ⟨rfl, _⟩ | ⟨g, cap, cur, rfl, hB, hg, _⟩
  · exact ⟨u, h.mv, h.hB, (fun e => by cases e), fun j hj => ⟨(h.hv j hj).1, fun e => by cases e⟩, fun j e => by cases e⟩
  · have key : ∀ j, ownX (.slice (some ⟨g, 0, none⟩) T.length cap) j → j = g := fun j e => by
      have e' : some g = some j := e
      exact (Option.some.inj e').symm
    refine ⟨u, h.mv, h.hB, (fun e => ?_), fun j hj => ⟨(h.hv j hj).1, fun e => ?_⟩, fun j e => ?_⟩
    · have := key _ e
      subst this
      rw [h.mv.m] at hg
      simp at hg
    · have := key _ e
      subst this
      rcases h.mv.r with ⟨rfl, _⟩ | ⟨g', n, c, rfl, _, _, _, r, hr, _⟩
      · cases hj
      · obtain rfl : g' = j := by simpa [Value.ownBlock] using hj
        rw [hr] at hg
        simp at hg
    · rw [key _ e]; exact (Array.getElem?_eq_some_iff.1 hg).1

/-- Marks with a stretch set. -/
def setF (us : List Bool) (a n : Int) (q : Bool) (i : Nat) : Bool := if a ≤ (i : Int) ∧ (i : Int) < a + n then q else us.getD i false
def setU (us : List Bool) (a n : Int) (q : Bool) : List Bool := (List.range us.length).map (setF us a n q)
theorem setU_at (us : List Bool) (a n : Int) (q : Bool) (i : Nat) (hi : i < (setU us a n q).length) : (setU us a n q)[i] = setF us a n q i := by simp [setU]
theorem Um.set {z a n : Int} {l l' : List (Int × Int)} {us : List Bool} {q : Bool} (h : Um z l us) (hm : ∀ i, inR l' i ↔ if a ≤ i ∧ i < a + n then q = true else inR l i) : Um z l' (setU us a n q) := by
  refine ⟨by unfold setU; rw [List.length_map, List.length_range]; exact h.len, fun i hi => ?_⟩
  have hi' : i < us.length := by unfold setU at hi; rwa [List.length_map, List.length_range] at hi
  rw [setU_at, hm]
  unfold setF
  by_cases hc : a ≤ (i : Int) ∧ (i : Int) < a + n
  · rw [if_pos hc, if_pos hc]
  · rw [if_neg hc, if_neg hc, ← h.is i hi', List.getD_eq_getElem?_getD, List.getElem?_eq_getElem hi']
    rfl
theorem Um.taken {z a n : Int} {l l' : List (Int × Int)} {us : List Bool} (h : Um z l us) (ht : Taken z l a n l') : Um z l' (setU us a n true) :=
  h.set fun i => by
    rw [ht.mem]
    split
    · rename_i hc; exact ⟨fun _ => rfl, fun _ => .inr hc⟩
    · rename_i hc; exact ⟨fun h => h.elim id fun h => absurd h hc, .inl⟩
theorem Um.freed {z a n : Int} {l l' : List (Int × Int)} {us : List Bool} (h : Um z l us) (ht : Freed z l a n l') : Um z l' (setU us a n false) :=
  h.set fun i => by
    rw [ht.mem]
    split
    · rename_i hc; exact ⟨fun h => absurd hc h.2, fun h => by cases h⟩
    · rename_i hc; exact ⟨fun h => h.1, fun h => ⟨h, hc⟩⟩
theorem bool_of {q : Bool} {p : Prop} (h : q = true ↔ p) (hp : p) : q = true := h.2 hp
theorem bool_not {q : Bool} {p : Prop} (h : q = true ↔ p) (hp : ¬ p) : q = false := by
  cases q with
  | true => exact absurd (h.1 rfl) hp
  | false => rfl

section
variable {w : World} {g N c : Nat} {us : List Bool} {z : Int} {l : List (Int × Int)} {a n : Int}
set_option maxHeartbeats 1000000 in
theorem refFull_ok (hM : MarksAt w g N us) (hU : Um z l us) (hN : N ≤ 300) (hh : hasB z a n = true) (q : Bool) (hq : q = true ↔ FullR l a n) :
    Calls Try.prog 18 #[.slice (some ⟨g, 0, none⟩) N c, .int .i64 a, .int .i64 n] w fun e w' => e = .returned (.bool q) ∧ w = w' := by
  obtain ⟨n1, a0, an⟩ := hasB_true hh
  have hz : z = (N : Int) := by rw [← hU.len, hM.len]
  have HM := Lib.hid hM
  have HU := Lib.hid hU
  have HQ := Lib.hid hq
  have hzN : z ≤ 300 := by omega
  have hzN2 : z ≤ (N : Int) := by omega
  clear hM hU hh hq hz
  go_enter Try.func18, Try.ntmps18
  go_wp2
  go_loop [7] (fun i => ∃ k : Int, a ≤ k ∧ k ≤ a + n ∧ i = .int .i64 k ∧ Hid (∀ j, a ≤ j → j < k → inR l j)) (fun i => (a + n - intOf i).toNat)
  case atStart => exact ⟨a, Int.le_refl _, by omega, rfl, Lib.hid fun j h1 h2 => by omega⟩
  case round =>
    obtain ⟨k, hk0, hk1, rfl, HF⟩ := hrel
    by_cases hlt : k < a + n
    · obtain ⟨p, hp⟩ : ∃ p : Nat, k = (p : Int) := ⟨k.toNat, by omega⟩
      have hpl : p < us.length := by have := HM.out.len; omega
      have c0 := HM.out.at_ p hpl
      have hi := HU.out.is p hpl
      subst hp
      have hpN : p < N := by omega
      generalize us[p] = u at c0 hi
      have HI := Lib.hid hi
      clear hi hpl
      cases u with
      | true =>
        go_wp2
        go_round
        case rel => exact ⟨(p : Int) + 1, by omega, by omega, rfl, Lib.hid fun j h1 h2 => by
          by_cases e : j = (p : Int)
          · rw [e]; exact HI.out.1 rfl
          · exact HF.out j h1 (by omega)⟩
        case measure => simp [intOf]; omega
      | false =>
        have hq' := bool_not HQ.out fun h => by have := HI.out.2 (h _ hk0 hlt); cases this
        clear HQ
        subst hq'
        go_wp2
        go_ret
        exact ⟨rfl, rfl⟩
    · have hq' := bool_of HQ.out fun j h1 h2 => HF.out j h1 (by omega)
      clear HQ
      subst hq'
      go_wp2
      go_ret
      exact ⟨rfl, rfl⟩

set_option maxHeartbeats 1000000 in
theorem refFree_ok (hM : MarksAt w g N us) (hU : Um z l us) (hN : N ≤ 300) (hn : I64 n) (q : Bool) (hq : q = true ↔ FreeR z l a n) :
    Calls Try.prog 21 #[.slice (some ⟨g, 0, none⟩) N c, .int .i64 a, .int .i64 n] w fun e w' => e = .returned (.bool q) ∧ w = w' := by
  have hz : z = (N : Int) := by rw [← hU.len, hM.len]
  obtain ⟨n0, n1⟩ := hn
  have HM := Lib.hid hM
  have HU := Lib.hid hU
  have HQ := Lib.hid hq
  have hzN : z ≤ 300 := by omega
  have hzN2 : z ≤ (N : Int) := by omega
  have hzN3 : (N : Int) ≤ z := by omega
  clear hM hU hq hz
  by_cases g1 : a < 0
  · have d1 : decide (a < 0) = true := decide_eq_true g1
    have hq' := bool_not HQ.out fun h => by have := h.1; omega
    clear HQ
    subst hq'
    go_enter Try.func21, Try.ntmps21
    go_wp2
    go_ret
    exact ⟨rfl, rfl⟩
  have d1 : decide (a < 0) = false := decide_eq_false g1
  by_cases g2 : n < 1
  · have d2 : decide (n < 1) = true := decide_eq_true g2
    have hq' := bool_not HQ.out fun h => by have := h.2.1; omega
    clear HQ
    subst hq'
    go_enter Try.func21, Try.ntmps21
    go_wp2
    go_ret
    exact ⟨rfl, rfl⟩
  have d2 : decide (n < 1) = false := decide_eq_false g2
  by_cases g3 : (N : Int) < n
  · have d3 : decide ((N : Int) < n) = true := decide_eq_true g3
    have hq' := bool_not HQ.out fun h => by have := h.2.2.1; omega
    clear HQ
    subst hq'
    go_enter Try.func21, Try.ntmps21
    go_wp2
    go_ret
    exact ⟨rfl, rfl⟩
  have d3 : decide ((N : Int) < n) = false := decide_eq_false g3
  by_cases g4 : (N : Int) - n < a
  · have d4 : decide ((N : Int) - n < a) = true := decide_eq_true g4
    have hq' := bool_not HQ.out fun h => by have := h.2.2.1; omega
    clear HQ
    subst hq'
    go_enter Try.func21, Try.ntmps21
    go_wp2
    go_ret
    exact ⟨rfl, rfl⟩
  have d4 : decide ((N : Int) - n < a) = false := decide_eq_false g4
  go_enter Try.func21, Try.ntmps21
  go_wp2
  go_loop [7] (fun i => ∃ k : Int, a ≤ k ∧ k ≤ a + n ∧ i = .int .i64 k ∧ Hid (∀ j, a ≤ j → j < k → ¬ inR l j)) (fun i => (a + n - intOf i).toNat)
  case atStart => exact ⟨a, Int.le_refl _, by omega, rfl, Lib.hid fun j h1 h2 => by omega⟩
  case round =>
    obtain ⟨k, hk0, hk1, rfl, HF⟩ := hrel
    by_cases hlt : k < a + n
    · obtain ⟨p, hp⟩ : ∃ p : Nat, k = (p : Int) := ⟨k.toNat, by omega⟩
      have hpl : p < us.length := by have := HM.out.len; omega
      have c0 := HM.out.at_ p hpl
      have hi := HU.out.is p hpl
      subst hp
      have hpN : p < N := by omega
      generalize us[p] = u at c0 hi
      have HI := Lib.hid hi
      clear hi hpl
      cases u with
      | false =>
        go_wp2
        go_round
        case rel => exact ⟨(p : Int) + 1, by omega, by omega, rfl, Lib.hid fun j h1 h2 => by
          by_cases e : j = (p : Int)
          · rw [e]; exact fun h => by have := HI.out.2 h; cases this
          · exact HF.out j h1 (by omega)⟩
        case measure => simp [intOf]; omega
      | true =>
        have hq' := bool_not HQ.out fun h => h.2.2.2 _ hk0 hlt (HI.out.1 rfl)
        clear HQ
        subst hq'
        go_wp2
        go_ret
        exact ⟨rfl, rfl⟩
    · have hq' := bool_of HQ.out ⟨by omega, by omega, by omega, fun j h1 h2 => HF.out j h1 (by omega)⟩
      clear HQ
      subst hq'
      go_wp2
      go_ret
      exact ⟨rfl, rfl⟩

/-- What Set answers. -/
def SetV (us : List Bool) (a n : Int) (q : Bool) (w : World) (e : Ending) (w' : World) : Prop := ∃ v, e = .returned v ∧ OwnB w.heap.size w' v (setU us a n q) ∧ Below w.heap.size w w'
theorem setTo_succ (us : List Bool) (a n : Int) (q : Bool) (k : Nat) : (List.range (k + 1)).map (setF us a n q) = (List.range k).map (setF us a n q) ++ [setF us a n q k] := by rw [List.range_succ, List.map_append]; rfl
set_option maxHeartbeats 1000000 in
theorem refSet_ok (hM : MarksAt w g N us) (hN : N ≤ 300) (hh : hasB (N : Int) a n = true) (q : Bool) :
    Calls Try.prog 19 #[.slice (some ⟨g, 0, none⟩) N c, .int .i64 a, .int .i64 n, .bool q] w (SetV us a n q w) := by
  obtain ⟨n1, a0, an⟩ := hasB_true hh
  have HM := Lib.hid hM
  clear hM hh
  go_enter Try.func19, Try.ntmps19
  go_wp2_with fail
  go_loopw [9, 10] (fun v i wr => ∃ k : Nat, k ≤ N ∧ i = .int .i64 (k : Int) ∧ Hid (OwnB w.heap.size wr v ((List.range k).map (setF us a n q))) ∧ Hid (Below w.heap.size w wr)) (fun _ i _ => N - (intOf i).toNat)
  case atStart => exact ⟨0, Nat.zero_le _, rfl, Lib.hid (World.ownsRow_nil _ _ _ _), Lib.hid (Below.refl _ _)⟩
  case round =>
    obtain ⟨k, hk, rfl, HO, HB⟩ := hrel
    have HL : Hid (((List.range k).map (setF us a n q)).length ≤ 100000) := Lib.hid (by rw [List.length_map, List.length_range]; omega)
    by_cases hlt : k < N
    · have hkl : k < us.length := by have := HM.out.len; omega
      have c0 := (HM.out.next HB.out).at_ k hkl
      have hST := setTo_succ us a n q k
      have hsz := HB.out.size
      by_cases hc : a ≤ (k : Int) ∧ (k : Int) < a + n
      · obtain ⟨hc1, hc2⟩ := hc
        rw [show setF us a n q k = q by unfold setF; rw [if_pos ⟨hc1, hc2⟩]] at hST
        have HST := Lib.hid hST
        have d1 : decide (a ≤ (k : Int)) = true := decide_eq_true hc1
        have d2 : decide ((k : Int) < a + n) = true := decide_eq_true hc2
        clear hST hkl c0
        go_wp2_with (at_builtin; refine wpList_append_bool _ rfl _ _ rfl w.heap.size _ _ q _ 1 rfl rfl (HO.out.below (boxed _ _)) (by simp) (by simp; omega) HL.out ?_; intro v4 w4 hO4 b4; have HO4 := Lib.hid hO4; have HB4 := Lib.hid (HB.out.trans (((boxed wr _).mono hsz).trans b4)); clear hO4 b4)
        go_roundw
        case rel => exact ⟨k + 1, by omega, by go_num, Lib.hid (by rw [HST.out]; exact HO4.out), HB4⟩
        case measure => simp [intOf]; omega
      · rw [show setF us a n q k = us[k] by unfold setF; rw [if_neg hc, List.getD_eq_getElem?_getD, List.getElem?_eq_getElem hkl]; rfl] at hST
        have HST := Lib.hid hST
        generalize us[k] = u at c0 HST
        by_cases hc1 : a ≤ (k : Int)
        · have hc2 : ¬ (k : Int) < a + n := fun h => hc ⟨hc1, h⟩
          have d1 : decide (a ≤ (k : Int)) = true := decide_eq_true hc1
          have d2 : decide ((k : Int) < a + n) = false := decide_eq_false hc2
          clear hST hkl hc
          go_wp2_with (at_builtin; refine wpList_append_bool _ rfl _ _ rfl w.heap.size _ _ u _ 1 rfl rfl (HO.out.below (boxed _ _)) (by simp) (by simp; omega) HL.out ?_; intro v4 w4 hO4 b4; have HO4 := Lib.hid hO4; have HB4 := Lib.hid (HB.out.trans (((boxed wr _).mono hsz).trans b4)); clear hO4 b4)
          go_roundw
          case rel => exact ⟨k + 1, by omega, by go_num, Lib.hid (by rw [HST.out]; exact HO4.out), HB4⟩
          case measure => simp [intOf]; omega
        · have d1 : decide (a ≤ (k : Int)) = false := decide_eq_false hc1
          clear hST hkl hc
          go_wp2_with (at_builtin; refine wpList_append_bool _ rfl _ _ rfl w.heap.size _ _ u _ 1 rfl rfl (HO.out.below (boxed _ _)) (by simp) (by simp; omega) HL.out ?_; intro v4 w4 hO4 b4; have HO4 := Lib.hid hO4; have HB4 := Lib.hid (HB.out.trans (((boxed wr _).mono hsz).trans b4)); clear hO4 b4)
          go_roundw
          case rel => exact ⟨k + 1, by omega, by go_num, Lib.hid (by rw [HST.out]; exact HO4.out), HB4⟩
          case measure => simp [intOf]; omega
    · obtain rfl : k = N := by omega
      go_wp2
      go_ret
      refine ⟨_, rfl, ?_, HB.out⟩
      unfold setU
      rw [HM.out.len]
      exact HO.out
end
end Go.Proofs.Ytoiiaacjpobaeaa
