/-
  space.Take, as one; space.Free.
-/
import Derived.Test.YtoiiaacjpobaeaaSe
import Derived.Deep.RegionHeld3
import Derived.Lib.AppendZeros
namespace Go.Proofs.Ytoiiaacjpobaeaa
set_option maxRecDepth 100000
open Go.RowKit

/-- What Take answers and leaves. -/
def TakeR (z a n : Int) (l : List (Int × Int)) (r : Int) (l' : List (Int × Int)) : Prop :=
  (r = 1 ∧ hasB z a n = false ∧ l' = l) ∨ (r = 13 ∧ hasB z a n = true ∧ ¬ FreeR z l a n ∧ l' = l) ∨ (r = 0 ∧ FreeR z l a n ∧ Taken z l a n l')
theorem FreeR.has {z a n : Int} {l : List (Int × Int)} (h : FreeR z l a n) : hasB z a n = true := decide_eq_true ⟨h.2.1, h.1, h.2.2.1⟩
theorem Cut.hiR {z a : Int} {l l1 : List (Int × Int)} {c : Int × Int} {q : List (Int × Int)} (hc : Cut l l1 (c :: q) a) (hw : WF z l) {y : Int} (hy : y < c.1) : ∀ r ∈ c :: q, r.1 ≠ y := by
  have hw2 := hw
  rw [hc.eq] at hw2
  intro r hr
  rcases List.mem_cons.1 hr with rfl | hr
  · omega
  · have := (List.pairwise_cons.1 hw2.right.ap).1 r hr
    have := hw2.right.head
    omega
theorem Cut.loL {z a : Int} {l p l2 : List (Int × Int)} {bb : Int × Int} (hc : Cut l (p ++ [bb]) l2 a) (hw : WF z l) (hb : bb.1 + bb.2 ≠ a) : ∀ r ∈ p ++ [bb], r.1 + r.2 ≠ a := by
  have hw2 := hw
  rw [hc.eq] at hw2
  have h1 := hc.lo bb (by simp)
  intro r hr
  rcases List.mem_append.1 hr with hr | hr
  · have := hw2.left.mid r hr bb (by simp)
    have := hw2.ok bb (by simp)
    omega
  · rw [List.mem_singleton.1 hr]; exact hb
theorem take_any {z : Int} {l : List (Int × Int)} (hw : WF z l) (hz : 0 ≤ z ∧ z ≤ 65536) (a n : Int) (hn : I64 n) :
    ∃ r l', TakeR z a n l r l' ∧ ∀ (B : Nat) (x : Nat → Prop) (w : World) (b : Nat), MapIn B x w b z l → Calls Try.prog 11 #[.pointer (some ⟨b, 0, none⟩), .int .i64 a, .int .i64 n] w (Did B x w b z l' r) := by
  cases hh : hasB z a n with
  | false => exact ⟨1, l, .inl ⟨rfl, hh, rfl⟩, fun B x w b h => take_no B x w b z a n l h hz hn hh⟩
  | true =>
  obtain ⟨n1, a0, anz⟩ := hasB_true hh
  obtain ⟨l1, l2, hc⟩ := hw.cut a
  have hf := hc.used_iff hw n1 a0 anz
  have main : (∀ c ∈ l2, a + n ≤ c.1) → ∃ l', Taken z l a n l' ∧ ∀ (B : Nat) (x : Nat → Prop) (w : World) (b : Nat), MapIn B x w b z l → Calls Try.prog 11 #[.pointer (some ⟨b, 0, none⟩), .int .i64 a, .int .i64 n] w (Did B x w b z l' 0) := fun hu => by
    have hF := hf.2 hu
    rcases List.eq_nil_or_concat l1 with rfl | ⟨p, bb, e1⟩
    · cases l2 with
      | nil => exact ⟨_, hc.take0 hw hF (fun _ h => by cases h) (fun _ h => by cases h), fun B x w b h => by have := take_xx B x w b z a n l h hw hz hn hh hc; rwa [show a + n - a = n by omega] at this⟩
      | cons c q =>
        obtain ⟨cx, cy⟩ := c
        have := hu _ List.mem_cons_self
        by_cases hcx : cx = a + n
        · exact ⟨_, hc.takeR hw hF hcx (fun _ h => by cases h), fun B x w b h => take_xy B x w b z a n l q cx cy h hw hz hn hh hc hcx⟩
        · have hlt : a + n < cx := by have h1 : a + n ≤ cx := this; omega
          exact ⟨_, hc.take0 hw hF (fun _ h => by cases h) (hc.hiR hw hlt), fun B x w b h => by have := take_xn B x w b z a n l q cx cy h hw hz hn hh hc hlt; rwa [show a + n - a = n by omega] at this⟩
    · rw [List.concat_eq_append] at e1
      subst e1
      obtain ⟨bx, by'⟩ := bb
      by_cases hbx : bx + by' = a
      · cases l2 with
        | nil => exact ⟨_, hc.takeL hw hF hbx (fun _ h => by cases h), fun B x w b h => take_yx B x w b z a n l p bx by' h hw hz hn hh hc hbx⟩
        | cons c q =>
          obtain ⟨cx, cy⟩ := c
          have := hu _ List.mem_cons_self
          by_cases hcx : cx = a + n
          · exact ⟨_, hc.takeB hw hF hbx hcx, fun B x w b h => take_yy B x w b z a n l p bx by' q cx cy h hw hz hn hh hc hbx hcx⟩
          · have hlt : a + n < cx := by have h1 : a + n ≤ cx := this; omega
            exact ⟨_, hc.takeL hw hF hbx (hc.hiR hw hlt), fun B x w b h => take_yn B x w b z a n l p bx by' q cx cy h hw hz hn hh hc hbx hlt⟩
      · cases l2 with
        | nil => exact ⟨_, hc.take0 hw hF (hc.loL hw hbx) (fun _ h => by cases h), fun B x w b h => by have := take_nx B x w b z a n l p bx by' h hw hz hn hh hc hbx; rwa [show a + n - a = n by omega] at this⟩
        | cons c q =>
          obtain ⟨cx, cy⟩ := c
          have := hu _ List.mem_cons_self
          by_cases hcx : cx = a + n
          · exact ⟨_, hc.takeR hw hF hcx (hc.loL hw hbx), fun B x w b h => take_ny B x w b z a n l p bx by' q cx cy h hw hz hn hh hc hbx hcx⟩
          · have hlt : a + n < cx := by have h1 : a + n ≤ cx := this; omega
            exact ⟨_, hc.take0 hw hF (hc.loL hw hbx) (hc.hiR hw hlt), fun B x w b h => by have := take_nn B x w b z a n l p bx by' q cx cy h hw hz hn hh hc hbx hlt; rwa [show a + n - a = n by omega] at this⟩
  cases e2 : l2 with
  | nil =>
    obtain ⟨l', h1, h2⟩ := main (fun _ h => by rw [e2] at h; cases h)
    exact ⟨0, l', .inr (.inr ⟨rfl, hf.2 (fun _ h => by rw [e2] at h; cases h), h1⟩), h2⟩
  | cons c q =>
    by_cases hlt : c.1 < a + n
    · obtain ⟨cx, cy⟩ := c
      subst e2
      exact ⟨13, l, .inr (.inl ⟨rfl, hh, (fun h => by have : a + n ≤ cx := hf.1 h _ List.mem_cons_self; have h2 : cx < a + n := hlt; omega), rfl⟩), fun B x w b h => take_used B x w b z a n l l1 q cx cy h hw hz hn hh hc hlt⟩
    · have hall : ∀ s ∈ l2, a + n ≤ s.1 := by
        have hw2 := hw
        rw [hc.eq, e2] at hw2
        rw [e2]
        intro s hs
        rcases List.mem_cons.1 hs with rfl | hs
        · omega
        · have := (List.pairwise_cons.1 hw2.right.ap).1 s hs
          have := hw2.right.head
          omega
      obtain ⟨l', h1, h2⟩ := main hall
      exact ⟨0, l', .inr (.inr ⟨rfl, hf.2 hall, h1⟩), h2⟩

/-- Own runs, from block C on. -/
structure RunsO (C : Nat) (w : World) (v : Value) (l : List (Int × Int)) : Prop where
  r : RunsV w v l
  own : ∀ k, v.ownBlock = some k → C ≤ k
theorem RunsO.below {C : Nat} {w w' : World} {v : Value} {l : List (Int × Int)} (h : RunsO C w v l) (hb : Below w.heap.size w w') : RunsO C w' v l := ⟨h.r.below hb, h.own⟩
/-- What between answers, of any two sectors. -/
def BtwA (C : Nat) (x y : Int) (w : World) (e : Ending) (w' : World) : Prop := ∃ v, e = .returned v ∧ RunsO C w' v (btw x y) ∧ Below w.heap.size w w'
theorem btw_any (C : Nat) (x y : Int) (w : World) (h0 : 0 ≤ x) (h : x ≤ y) (hy : y ≤ 100000) (hC : C ≤ w.heap.size) : Calls Try.prog 27 #[.int .i64 x, .int .i64 y] w (BtwA C x y w) := by
  by_cases e : x = y
  · subst e
    refine (btw_no x w).mono ?_
    rintro e w' ⟨rfl, rfl⟩
    exact ⟨_, rfl, ⟨.inl ⟨rfl, by unfold btw; rw [if_pos rfl]⟩, fun k hk => by cases hk⟩, Below.refl _ _⟩
  · refine (btw_yes x y w h0 (by omega) hy).mono ?_
    rintro e2 w' ⟨g, rfl, hg, hr, hb⟩
    refine ⟨_, rfl, ⟨.inr ⟨g, 1, 1, rfl, ?_, Nat.le_refl _, by unfold maxLen; omega, ?_⟩, fun k hk => ?_⟩, hb⟩
    · unfold btw; rw [if_neg e]; rfl
    · unfold btw; rw [if_neg e]; exact hr
    · obtain rfl : g = k := by simpa [Value.ownBlock] using hk
      omega
theorem btw_len (x y : Int) : (btw x y).length ≤ 1 := by unfold btw; split <;> simp
/-- append(v1, v2...), own runs. -/
theorem run_append_two (C : Nat) (w : World) (ty : TypeId) (v1 v2 : Value) (l1 l2 : List (Int × Int)) (h1 : RunsO C w v1 l1) (h2 : RunsV w v2 l2) (h10 : l1.length ≤ 10) (h20 : l2.length ≤ 10) (hC : C ≤ w.heap.size) :
    ∃ r w', (Builtin.append_ #[36, 36] ty #[v1, v2]).run Try.prog w = .ok r w' ∧ RunsO C w' r (l1 ++ l2) ∧ Below C w w' := by
  rcases h1.r with ⟨rfl, rfl⟩ | ⟨g, n, c, rfl, hn, hnc, hcm, hR⟩
  · rcases Nat.eq_zero_or_pos l2.length with h0 | h0
    · have e2 := List.eq_nil_of_length_eq_zero h0
      subst e2
      have hS := h2.src.src
      obtain ⟨i, hi, hz, hsz, hby⟩ := info_run
      refine ⟨.slice none 0 0, w, ?_, ⟨.inl ⟨rfl, rfl⟩, fun k hk => by cases hk⟩, Below.refl _ _⟩
      have hl := hS.len
      have hcs := hS.cells
      simp [flatR] at hl hcs
      simp [Builtin.append_, run_underlying Try.underlying36, sizeOf, typeInfo, hi, hsz, hl, hcs]
    · obtain ⟨c', w', hr, hb, _, hrow, hc1, hc2⟩ := run_append_none w ty l2 v2 h2.src h0 (by omega)
      refine ⟨_, _, hr, ⟨.inr ⟨_, _, c', rfl, rfl, hc1, hc2, hrow⟩, fun k hk => ?_⟩, hb.mono hC⟩
      have : w.heap.size = k := by simpa [Value.ownBlock] using hk
      omega
  · have hgC : C ≤ g := h1.own g rfl
    obtain ⟨a1, a2⟩ := run_append_runs w ty g n c l1 l2 v2 hR hn h2.src (by omega)
    rcases Nat.lt_or_ge c (n + l2.length) with hlt | hge
    · obtain ⟨c', w', hr, hb, _, hrow, hc1, hc2⟩ := a2 hlt
      refine ⟨_, _, hr, ⟨.inr ⟨_, _, c', rfl, by simp [hn], hc1, hc2, hrow⟩, fun k hk => ?_⟩, hb.mono hC⟩
      have : w.heap.size = k := by simpa [Value.ownBlock] using hk
      omega
    · obtain ⟨w', hr, hov⟩ := a1 hge
      have := hov.row c [] (by rw [List.append_nil]; exact hR) (by omega)
      refine ⟨_, _, hr, ⟨.inr ⟨g, _, c, rfl, by simp [hn], hge, hcm, by simpa using this⟩, fun k hk => ?_⟩, ⟨hov.grown.os, hov.grown.tape, hov.grown.output, hov.grown.size, fun k hk => hov.grown.block k (by omega) (by simp; omega)⟩⟩
      have : g = k := by simpa [Value.ownBlock] using hk
      omega
theorem step_append_run {P : Program} {ops : Array Oper} {o : Oper} {a : Act} {w : World} {K : Act → World → Prop} {Q : Exit → Act → World → Prop} {E : Prop} (hg : o.guard = none) (s x : Operand) (t : TypeId)
    (hop : o.op = Op.call { callee := Callee.builtin Builtin.append, args := #[s, x], argTypes := #[t, t] }) (v xv : Value) (hs : a.eval s = v) (hx : a.eval x = xv) (r : Value) (w' : World)
    (hr : (Builtin.append_ #[t, t] o.type #[v, xv]).run P w = .ok r w') (hK : K (a.put o.dst r) w') : if Region.wanted o (yielded ops a.tmps) = true then Oper.wp P o a w K Q else E := by
  have hw : Region.wanted o (yielded ops a.tmps) = true := by simp [Region.wanted, hg]
  rw [if_pos hw]
  exact Lib.wp_append_run w s x t t hop v xv hs hx r w' hr hK
end Go.Proofs.Ytoiiaacjpobaeaa
