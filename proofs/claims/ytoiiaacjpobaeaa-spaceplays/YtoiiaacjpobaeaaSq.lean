/-
  The document's marks (polderref11): Find, Runs.
-/
import Derived.Test.YtoiiaacjpobaeaaSp
import Derived.StillTailTactics
namespace Go.Proofs.Ytoiiaacjpobaeaa
set_option maxRecDepth 100000
open Go.RowKit

theorem FirstR.uniq {z n f a a' : Int} {l : List (Int × Int)} (h : FirstR z l n f a) (h' : FirstR z l n f a') : a = a' := by
  have h1 : ¬ a < a' := fun hlt => h'.2.2 a h.2.1 hlt h.1
  have h2 : ¬ a' < a := fun hlt => h.2.2 a' h'.2.1 hlt h'.1
  omega
section
variable {w : World} {g N c : Nat} {us : List Bool} {z : Int} {l : List (Int × Int)} {n f : Int}
set_option maxHeartbeats 1000000 in
theorem refFind_ok (hM : MarksAt w g N us) (hU : Um z l us) (hN : N ≤ 300) (hn : I64 n) (a : Int) (ok : Bool) (hA : FindR z l n f a ok) (r : Int) (hr1 : ok = true → r = a) (hr2 : ok = false → r = -1) :
    Calls Try.prog 20 #[.slice (some ⟨g, 0, none⟩) N c, .int .i64 n, .int .i64 f] w fun e w' => e = .returned (.int .i64 r) ∧ w = w' := by
  have hz : z = (N : Int) := by rw [← hU.len, hM.len]
  have hzN : z ≤ 300 := by omega
  have hzN3 : z = (N : Int) := hz
  have no0 : (n < 1 ∨ f < 0 ∨ (N : Int) < f) → r = -1 := fun h1 => by
    rcases hA with ⟨_, q1, q2, q3, _⟩ | ⟨e, _⟩
    · omega
    · exact hr2 e
  have no1 : (∀ s, f ≤ s → ¬ FreeR z l s n) → (∀ s, 0 ≤ s → s < f → ¬ FreeR z l s n) → r = -1 := fun h1 h2 => by
    rcases hA with ⟨_, q1, q2, q3, h | h⟩ | ⟨e, _⟩
    · exact absurd h.1 (h1 a h.2.1)
    · by_cases hc : a < f
      · exact absurd h.2.1 (h2 a h.2.2.1 hc)
      · exact absurd h.2.1 (h.1 a (by omega))
    · exact hr2 e
  have yes1 : ∀ s, FirstR z l n f s → 0 ≤ f → f ≤ z → r = s := fun s hs q0 q1 => by
    rcases hA with ⟨e, _, _, _, h | h⟩ | ⟨e, _, h⟩
    · rw [hr1 e]; exact h.uniq hs
    · exact absurd hs.1 (h.1 s hs.2.1)
    · have := hs.1.2.1
      rcases h with h | h | h | h
      · omega
      · omega
      · omega
      · exact absurd hs.1 (h s)
  have yes2 : ∀ s, FirstR z l n 0 s → (∀ t, f ≤ t → ¬ FreeR z l t n) → 0 ≤ f → f ≤ z → r = s := fun s hs hno q0 q1 => by
    rcases hA with ⟨e, _, _, _, h | h⟩ | ⟨e, _, h⟩
    · exact absurd h.1 (hno a h.2.1)
    · rw [hr1 e]; exact h.2.uniq hs
    · have := hs.1.2.1
      rcases h with h | h | h | h
      · omega
      · omega
      · omega
      · exact absurd hs.1 (h s)
  have HN0 := Lib.hid no0
  have HN1 := Lib.hid no1
  have HY1 := Lib.hid yes1
  have HY2 := Lib.hid yes2
  have HF := Lib.hid (fun a q hq => refFree_ok (c := c) hM hU hN hn (a := a) q hq)
  have HZ := Lib.hid hz
  clear no0 no1 yes1 yes2 hM hU hA hr1 hr2 hz hzN3
  by_cases g1 : n < 1
  · have d1 : decide (n < 1) = true := decide_eq_true g1
    have hr := HN0.out (.inl g1)
    clear HN0 HN1 HY1 HY2
    subst hr
    go_enter Try.func20, Try.ntmps20
    go_wp2
    go_ret
    exact ⟨rfl, rfl⟩
  have d1 : decide (n < 1) = false := decide_eq_false g1
  by_cases g2 : f < 0
  · have d2 : decide (f < 0) = true := decide_eq_true g2
    have hr := HN0.out (.inr (.inl g2))
    clear HN0 HN1 HY1 HY2
    subst hr
    go_enter Try.func20, Try.ntmps20
    go_wp2
    go_ret
    exact ⟨rfl, rfl⟩
  have d2 : decide (f < 0) = false := decide_eq_false g2
  by_cases g3 : (N : Int) < f
  · have d3 : decide ((N : Int) < f) = true := decide_eq_true g3
    have hr := HN0.out (.inr (.inr g3))
    clear HN0 HN1 HY1 HY2
    subst hr
    go_enter Try.func20, Try.ntmps20
    go_wp2
    go_ret
    exact ⟨rfl, rfl⟩
  have d3 : decide ((N : Int) < f) = false := decide_eq_false g3
  go_enter Try.func20, Try.ntmps20
  go_wp2_with fail
  go_loop [7] (fun i => ∃ k : Int, f ≤ k ∧ k ≤ (N : Int) ∧ i = .int .i64 k ∧ Hid (∀ s, f ≤ s → s < k → ¬ FreeR z l s n)) (fun i => ((N : Int) - intOf i).toNat)
  case atStart => exact ⟨f, Int.le_refl _, by omega, rfl, Lib.hid fun j h1 h2 => by omega⟩
  case round =>
    obtain ⟨k, hk0, hk1, rfl, HS⟩ := hrel
    by_cases hlt : k < (N : Int)
    · by_cases hfr : FreeR z l k n
      · have HC := Lib.hid (HF.out k true (by simp [hfr]))
        have hr := HY1.out k ⟨hfr, hk0, HS.out⟩ (by omega) (by have := HZ.out; omega)
        clear HN0 HN1 HY1 HY2 hfr
        subst hr
        go_wp2_with fail
        refine HC.out.mono ?_
        rintro e w1 ⟨rfl, rfl⟩
        go_wp2
        go_ret
        exact ⟨rfl, rfl⟩
      · have HC := Lib.hid (HF.out k false (by simp [hfr]))
        have HNF := Lib.hid hfr
        clear hfr
        go_wp2_with fail
        refine HC.out.mono ?_
        rintro e w1 ⟨rfl, rfl⟩
        go_wp2
        go_round
        case rel => exact ⟨k + 1, by omega, by omega, rfl, Lib.hid fun s h1 h2 => by
          by_cases e : s = k
          · rw [e]; exact HNF.out
          · exact HS.out s h1 (by omega)⟩
        case measure => simp [intOf]; omega
    · have HSA := Lib.hid (show ∀ s, f ≤ s → ¬ FreeR z l s n from fun s h1 hf => by
        by_cases h2 : s < k
        · exact HS.out s h1 h2 hf
        · have := hf.2.2.1
          have := hf.2.1
          have := HZ.out
          omega)
      clear HS
      go_wp2_with fail
      go_loop [8] (fun i => ∃ k : Int, 0 ≤ k ∧ k ≤ f ∧ i = .int .i64 k ∧ Hid (∀ s, 0 ≤ s → s < k → ¬ FreeR z l s n)) (fun i => (f - intOf i).toNat)
      case atStart => exact ⟨0, Int.le_refl _, by omega, rfl, Lib.hid fun j h1 h2 => by omega⟩
      case round =>
        obtain ⟨k2, hk2, hk3, rfl, HS2⟩ := hrel
        by_cases hlt2 : k2 < f
        · by_cases hfr : FreeR z l k2 n
          · have HC := Lib.hid (HF.out k2 true (by simp [hfr]))
            have hr := HY2.out k2 ⟨hfr, hk2, HS2.out⟩ HSA.out (by omega) (by have := HZ.out; omega)
            clear HN0 HN1 HY1 HY2 hfr
            subst hr
            go_wp2_with fail
            refine HC.out.mono ?_
            rintro e w1 ⟨rfl, rfl⟩
            go_wp2
            go_ret
            exact ⟨rfl, rfl⟩
          · have HC := Lib.hid (HF.out k2 false (by simp [hfr]))
            have HNF := Lib.hid hfr
            clear hfr
            go_wp2_with fail
            refine HC.out.mono ?_
            rintro e w1 ⟨rfl, rfl⟩
            go_wp2
            go_round
            case rel => exact ⟨k2 + 1, by omega, by omega, rfl, Lib.hid fun s h1 h2 => by
              by_cases e : s = k2
              · rw [e]; exact HNF.out
              · exact HS2.out s h1 (by omega)⟩
            case measure => simp [intOf]; omega
        · have hr := HN1.out HSA.out fun s h1 h2 => HS2.out s h1 (by omega)
          clear HN0 HN1 HY1 HY2
          subst hr
          go_wp2
          go_ret
          exact ⟨rfl, rfl⟩
end

/-- The slice v is the call's own, from block B on, and it is the pairs l. -/
def OwnP (B : Nat) (w : World) (v : Value) (l : List (Int × Int)) : Prop := w.ownsRow B 47 2 v l.length (flatR l)
theorem OwnP.below {B : Nat} {w w' : World} {v : Value} {l : List (Int × Int)} (h : OwnP B w v l) (hb : Below w.heap.size w w') : OwnP B w' v l := by
  refine ⟨h.1, ?_⟩
  rcases h.2 with hn | ⟨g, cap, cur, rfl, hB, hg, rest⟩
  · exact .inl hn
  · exact .inr ⟨g, cap, cur, rfl, hB, by rw [hb.block g (Array.getElem?_eq_some_iff.1 hg).1]; exact hg, rest⟩
/-- Where an own slice of pairs lies. -/
theorem OwnP.at_ {w : World} {B : Nat} {v : Value} {l : List (Int × Int)} (h : OwnP B w v l) (hl : 0 < l.length) :
    ∃ g n c, v = .slice (some ⟨g, 0, none⟩) n c ∧ l.length = n ∧ B ≤ g ∧ g < w.heap.size ∧ (∀ j (h : j < l.length), IsRun w g (j * 2) l[j]) ∧ (∀ j, w.frozen? ⟨g, j, none⟩ = false) := by
  have hcells := fun g hg => World.ownsRow.cells (g := g) h hg
  rcases h.2 with ⟨_, h0⟩ | ⟨g, cap, cur, rfl, hB, hb, hnc, _⟩
  · omega
  · refine ⟨g, _, cap, rfl, rfl, hB, (Array.getElem?_eq_some_iff.1 hb).1, fun j hj => ⟨?_, ?_⟩, fun j => frozen_of_row w g j cur _ hb⟩
    · have e := hcells g rfl (j * 2 + 0) _ ((flatR_at l j hj 0 (by decide)).trans (show (cellsR l[j])[0]? = some (.int .i64 l[j].1) from rfl))
      rwa [add_plain', Nat.zero_add] at e
    · have e := hcells g rfl (j * 2 + 1) _ ((flatR_at l j hj 1 (by decide)).trans (show (cellsR l[j])[1]? = some (.int .i64 l[j].2) from rfl))
      rwa [add_plain', Nat.zero_add] at e
theorem info_pair : ∃ i, Try.prog.info? 47 = some i ∧ i.zero = some (.agg #[.int .i64 0, .int .i64 0]) ∧ i.size = 2 ∧ i.bytes = 16 := info_parts (by kernel_rfl)
theorem wpList_append_pair {ops : Array Oper} {rest : List Oper} {o : Oper} {a : Act} {Q : Exit → Act → World → Prop} (w : World) (hgd : o.guard = none) (s x : Operand)
    (ho : o.op = .call { callee := .builtin .append, args := #[s, x], argTypes := #[45, 45] }) (B : Nat) (v : Value) (l : List (Int × Int)) (y : Int × Int) (g c' : Nat) (hs : a.eval s = v) (hx : a.eval x = .slice (some ⟨g, 0, none⟩) 1 c')
    (hv : OwnP B w v l) (hc : IsRun w g 0 y) (hB : B ≤ w.heap.size) (hN : l.length ≤ 100000)
    (h : ∀ v' w', OwnP B w' v' (l ++ [y]) → Below B w w' → wpList Try.prog ops Q rest (a.put o.dst v') w') : wpList Try.prog ops Q (o :: rest) a w := by
  obtain ⟨i, hi, hz, hsz, hb⟩ := info_pair
  refine wpList_append_own_at w hgd s x _ ho B 47 i _ 2 16 Try.underlying45 hi hz hsz hb rfl (by decide) v l.length (flatR l) hs hv ⟨g, 0, none⟩ 1 c' (cellsR y) hx rfl (fun j u hj => ?_) (fun u hu => ?_) (by unfold maxLen; omega) (by omega) hB fun v' w' h1 h2 _ _ => ?_
  · have hlt : j < 2 := (List.getElem?_eq_some_iff.1 hj).1
    rw [add_plain', ← hj, Nat.zero_add]
    match j, hlt with
    | 0, _ => exact hc.c0
    | 1, _ => exact hc.c1
  · exact flatR_one [y] u (by simpa [flatR] using hu)
  · refine h v' w' ?_ ((Below.refl B w).grown h2 hB fun k hk => (World.ownsRow.lt hv k hk).1)
    unfold OwnP
    rw [List.length_append, flatR_app]
    have e : flatR [y] = cellsR y := by simp [flatR]
    rw [e]
    exact h1
/-- The last pair's second number is stored. -/
theorem OwnP.last {B : Nat} {w : World} {g n c : Nat} {p : List (Int × Int)} {x y : Int} (h : OwnP B w (.slice (some ⟨g, 0, none⟩) n c) (p ++ [(x, y)])) (m : Nat) (hm : p.length = m) (y' : Int) :
    OwnP B (w.setCell ⟨g, m * 2 + 1, none⟩ (.int .i64 y')) (.slice (some ⟨g, 0, none⟩) n c) (p ++ [(x, y')]) ∧ Below B w (w.setCell ⟨g, m * 2 + 1, none⟩ (.int .i64 y')) := by
  subst hm
  have hB : B ≤ g := (World.ownsRow.lt h g rfl).1
  have hn : n = (p ++ [(x, y)]).length := by
    rcases h.2 with ⟨e, _⟩ | ⟨g', cap, cur, e, _⟩
    · cases e
    · cases e; rfl
  subst hn
  have hs := (World.ownsRow.stored (n := (p ++ [(x, y)]).length) h (p.length * 2 + 1) (.int .i64 y')).1
  refine ⟨?_, (Below.refl _ _).setCell hB _⟩
  have e : (flatR (p ++ [(x, y)])).set (p.length * 2 + 1) (.int .i64 y') = flatR (p ++ [(x, y')]) := by
    rw [flatR_app, flatR_app, List.set_append_right _ _ (by rw [flatR_len]; omega), flatR_len]
    simp [flatR, cellsR]
  rw [e] at hs
  unfold OwnP
  have e2 : (p ++ [(x, y')]).length = (p ++ [(x, y)]).length := by simp
  rw [e2]
  exact hs

/-- The runs of the first i marks. -/
structure RunTo (us : List Bool) (i : Nat) (m : List (Int × Int)) : Prop where
  wf : WF (i : Int) m
  mem : ∀ j : Int, inR m j ↔ ∃ k : Nat, k < i ∧ us.getD k false = true ∧ j = (k : Int)
theorem WF.mono {z z' : Int} {l : List (Int × Int)} (h : WF z l) (hz : z ≤ z') : WF z' l := ⟨h.ap, fun r hr => by have := h.ok r hr; omega⟩
theorem RunTo.zero (us : List Bool) : RunTo us 0 [] := ⟨WF.nil _, fun j => by simp [inR_nil]⟩
theorem RunTo.no {us : List Bool} {i : Nat} {m : List (Int × Int)} (h : RunTo us i m) (hu : us.getD i false = false) : RunTo us (i + 1) m :=
  ⟨h.wf.mono (by omega), fun j => by
    rw [h.mem]
    constructor
    · rintro ⟨k, hk, h1, h2⟩; exact ⟨k, by omega, h1, h2⟩
    · rintro ⟨k, hk, h1, h2⟩
      refine ⟨k, ?_, h1, h2⟩
      rcases Nat.lt_succ_iff_lt_or_eq.1 hk with h | rfl
      · exact h
      · rw [hu] at h1; cases h1⟩
theorem RunTo.new {us : List Bool} {i : Nat} {m : List (Int × Int)} (h : RunTo us i m) (hu : us.getD i false = true) (hp : i = 0 ∨ us.getD (i - 1) false = false) : RunTo us (i + 1) (m ++ [((i : Int), 1)]) := by
  refine ⟨(h.wf.mono (by omega)).app (WF.one _ _ (by omega) (by omega) (by omega)) fun r hr s hs => ?_, fun j => ?_⟩
  · rw [List.mem_singleton.1 hs]
    have h1 := h.wf.ok r hr
    refine Int.not_le.1 fun hle => ?_
    have hle : (i : Int) ≤ r.1 + r.2 := hle
    obtain ⟨k, hk, h2, h3⟩ := (h.mem ((i : Int) - 1)).1 ⟨r, hr, by omega, by omega⟩
    rcases hp with hp | hp
    · omega
    · rw [show k = i - 1 by omega, hp] at h2; cases h2
  · rw [inR_app, h.mem, inR_one]
    constructor
    · rintro (⟨k, hk, h1, h2⟩ | hj)
      · exact ⟨k, by omega, h1, h2⟩
      · exact ⟨i, by omega, hu, by omega⟩
    · rintro ⟨k, hk, h1, h2⟩
      rcases Nat.lt_succ_iff_lt_or_eq.1 hk with hk | rfl
      · exact .inl ⟨k, hk, h1, h2⟩
      · exact .inr (by omega)
theorem RunTo.more {us : List Bool} {i : Nat} {m : List (Int × Int)} (h : RunTo us i m) (hi : 0 < i) (hp : us.getD (i - 1) false = true) (hu : us.getD i false = true) :
    ∃ p x y, m = p ++ [(x, y)] ∧ 0 ≤ y ∧ y ≤ (i : Int) ∧ RunTo us (i + 1) (p ++ [(x, y + 1)]) := by
  obtain ⟨r, hr, h1, h2⟩ := (h.mem ((i : Int) - 1)).2 ⟨i - 1, by omega, hp, by omega⟩
  rcases List.eq_nil_or_concat m with rfl | ⟨p, s, e⟩
  · cases hr
  · rw [List.concat_eq_append] at e
    subst e
    obtain ⟨x, y⟩ := s
    have hs : 0 ≤ x ∧ 1 ≤ y ∧ x + y ≤ (i : Int) := h.wf.ok (x, y) (by simp)
    have hend : x + y = (i : Int) := by
      rcases List.mem_append.1 hr with hr | hr
      · have := h.wf.mid r hr (x, y) (by simp)
        have h3 : r.1 + r.2 < x := this
        omega
      · rw [List.mem_singleton.1 hr] at h1 h2
        have h2 : (i : Int) - 1 < x + y := h2
        omega
    refine ⟨p, x, y, rfl, by omega, by omega, ⟨(h.wf.left.mono (by omega)).app (WF.one _ _ hs.1 (by omega) (by omega)) fun q hq t ht => ?_, fun j => ?_⟩⟩
    · rw [List.mem_singleton.1 ht]
      exact h.wf.mid q hq (x, y) (by simp)
    · have hm := h.mem j
      rw [inR_app, inR_one] at hm
      rw [inR_app, inR_one]
      constructor
      · intro hj
        by_cases e : j = (i : Int)
        · exact ⟨i, by omega, hu, e⟩
        · obtain ⟨k, hk, h3, h4⟩ := hm.1 (hj.imp id fun hj => ⟨hj.1, by omega⟩)
          exact ⟨k, by omega, h3, h4⟩
      · rintro ⟨k, hk, h3, h4⟩
        rcases Nat.lt_succ_iff_lt_or_eq.1 hk with hk | rfl
        · exact (hm.2 ⟨k, hk, h3, h4⟩).imp id fun hj => ⟨hj.1, by omega⟩
        · exact .inr (by omega)
theorem RunTo.all {us : List Bool} {z : Int} {l m : List (Int × Int)} (h : RunTo us us.length m) (hU : Um z l us) (hw : WF z l) : m = l := by
  have h1 := h.wf
  rw [hU.len] at h1
  refine h1.uniq hw fun j => ?_
  rw [h.mem]
  constructor
  · rintro ⟨k, hk, h2, rfl⟩
    rw [List.getD_eq_getElem?_getD, List.getElem?_eq_getElem hk] at h2
    exact (hU.is k hk).1 h2
  · intro hj
    have hb := hw.bound hj
    have hk : j.toNat < us.length := by have := hU.len; omega
    refine ⟨j.toNat, hk, ?_, by omega⟩
    rw [List.getD_eq_getElem?_getD, List.getElem?_eq_getElem hk]
    exact (hU.is _ hk).2 (by rw [show ((j.toNat : Nat) : Int) = j by omega]; exact hj)
theorem RunTo.len {us : List Bool} {i : Nat} {m : List (Int × Int)} (h : RunTo us i m) : m.length ≤ i := by have := h.wf.sum (by omega); omega
end Go.Proofs.Ytoiiaacjpobaeaa
