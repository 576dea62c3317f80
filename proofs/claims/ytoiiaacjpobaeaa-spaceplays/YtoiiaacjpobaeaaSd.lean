/-
  space: put.
-/
import Derived.Test.YtoiiaacjpobaeaaSc
namespace Go.Proofs.Ytoiiaacjpobaeaa
set_option maxRecDepth 100000
open Go.RowKit

/-- The map's slice is stored. -/
theorem MapAt.store {B : Nat} {x : Nat → Prop} {w w' : World} {b : Nat} {z : Int} {v : Value} {l : List (Int × Int)} (h : MapAt B x w b z v l) (v' : Value) (l' : List (Int × Int)) (hk : KeptX B x w w') (hb : w'.heap[b]? = w.heap[b]?) (hr : RunsV w' v' l')
    (hv : ∀ k, v'.ownBlock = some k → B ≤ k ∧ ¬ x k ∧ k ≠ b) : MapIn B x (w'.setCell ⟨b, 1, none⟩ v') b z l' ∧ KeptX B x w (w'.setCell ⟨b, 1, none⟩ v') := by
  have hm := h.mv.m
  rw [← hb] at hm
  have hs := heap_setCell_same w' b 1 _ _ v' hm
  refine ⟨⟨v', ⟨⟨hs, hr.of fun k hk => heap_setCell_other w' ⟨b, 1, none⟩ k v' (hv k hk).2.2⟩, h.hB, h.hx, fun k hk => ⟨(hv k hk).1, (hv k hk).2.1⟩, fun k hk' => ?_⟩⟩, hk.trans ⟨(Below.refl _ _).setCell h.hB _, fun k hk' => heap_setCell_other w' ⟨b, 1, none⟩ k v' fun e => h.hx (by rw [show k = b from e] at hk'; exact hk')⟩⟩
  have := h.lx k hk'
  have := hk.low.size
  simp
  omega

/-- Behind an append of x to runs p that have room for c. -/
structure App (w : World) (g c : Nat) (p x : List (Int × Int)) (N g' c' : Nat) (w' : World) : Prop where
  kept : w.grownBy w' (some g)
  row : Row w' g' c' (p ++ x)
  le : N ≤ c'
  max : c' ≤ maxLen
  alt : (N ≤ c ∧ g' = g ∧ c' = c ∧ Over w g p x w') ∨ (c < N ∧ w.heap.size ≤ g' ∧ Below w.heap.size w w')
theorem Row.part {w : World} {g c : Nat} {a q : List (Int × Int)} (h : Row w g c (a ++ q)) (t : Nat) (ht : a.length = t) : ∀ j (h : j < q.length), IsRun w g (t * 2 + j * 2) q[j] := fun j hj => by
  subst ht
  have := h.is (a.length + j) (by rw [List.length_append]; omega)
  rw [List.getElem_append_right (by omega)] at this
  simp only [Nat.add_sub_cancel_left] at this
  rwa [show (a.length + j) * 2 = a.length * 2 + j * 2 by omega] at this
theorem wpList_append_app {ops : Array Oper} {rest : List Oper} {o : Oper} {a : Act} {Q : Exit → Act → World → Prop} (w : World) (hgd : o.guard = none) (s x : Operand)
    (ho : o.op = .call { callee := .builtin .append, args := #[s, x], argTypes := #[36, 36] }) (g k c N : Nat) (p m : List (Int × Int)) (v : Value) (hs : a.eval s = .slice (some ⟨g, 0, none⟩) k c) (hx : a.eval x = v)
    (hR : Row w g c p) (hp : p.length = k) (hv : SrcR w v m) (hN : k + m.length = N) (hm : N ≤ 1000000) (hc : c ≤ maxLen)
    (h : ∀ g' c' w', App w g c p m N g' c' w' → wpList Try.prog ops Q rest (a.put o.dst (.slice (some ⟨g', 0, none⟩) N c')) w') : wpList Try.prog ops Q (o :: rest) a w :=
  wpList_append_runs w hgd s x ho g k c N p m v hs hx hR hp hv hN hm
    (fun h1 w' ho => h g c w' ⟨ho.grown, by have := ho.row c [] (by rw [List.append_nil]; exact hR) (by omega); simpa using this, h1, hc, .inl ⟨h1, rfl, rfl, ho⟩⟩)
    (fun h1 g' c' w' hg hb hr hc1 hc2 => h g' c' w' ⟨⟨hb.os, hb.tape, hb.output, hb.size, fun k hk _ => hb.block k hk⟩, hr, hc1, hc2, .inr ⟨h1, hg, hb⟩⟩)
theorem App.src {w w' : World} {g t N g' c' f C : Nat} {p m q x : List (Int × Int)} (hA : App w g t p x N g' c' w') (hR : Row w g C (p ++ (m ++ q))) (hf : p.length = f) (ht : f + m.length = t) (hN : f + x.length = N) (hC : t ≤ C) :
    ∀ j (h : j < q.length), IsRun w' g (t * 2 + j * 2) q[j] := by
  subst hf
  rcases hA.alt with ⟨h1, _, _, ho⟩ | ⟨_, _, hb⟩
  · have := ho.row C (m ++ q) hR (by omega)
    rw [List.drop_append_of_le_length (by omega), ← List.append_assoc, ← List.append_assoc] at this
    exact this.part t (by simp only [List.length_append, List.length_drop]; omega)
  · intro j hj
    have hg := hR.lt
    rw [← List.append_assoc] at hR
    exact (hR.part t (by rw [List.length_append]; omega) j hj).below hg hb

theorem SrcR.slice {w : World} {v : Value} {l : List (Int × Int)} (h : SrcR w v l) : ∃ a n c, v = .slice a n c := by
  rcases h with ⟨rfl, _⟩ | ⟨g, o, n, c, rfl, _⟩
  · exact ⟨_, _, _, rfl⟩
  · exact ⟨_, _, _, rfl⟩
/-- Facts on a block that has not turned. -/
theorem cell_kept {w w' : World} {b i : Nat} {v : Value} (e : w'.heap[b]? = w.heap[b]?) (h : w.cell? ⟨b, i, none⟩ = some v) : w'.cell? ⟨b, i, none⟩ = some v := (World.cell?_of_block (a := ⟨b, i, none⟩) e).trans h
theorem frozen_kept {w w' : World} {b i : Nat} (e : w'.heap[b]? = w.heap[b]?) (h : w.frozen? ⟨b, i, none⟩ = false) : w'.frozen? ⟨b, i, none⟩ = false := (World.frozen?_of_block (a := ⟨b, i, none⟩) e).trans h

set_option maxHeartbeats 2000000 in
theorem put_nil {B : Nat} {x : Nat → Prop} {w : World} {b : Nat} {z : Int} {xs : List (Int × Int)} (h : MapAt B x w b z (.slice none 0 0) []) (v : Value) (hv : SrcR w v xs) (N : Nat) (h0 : 0 < N) (hx : xs.length = N) (hx2 : N ≤ 10) :
    Calls Try.prog 26 #[.pointer (some ⟨b, 0, none⟩), .int .i64 0, .int .i64 0, v] w fun e w' => e = .returned (.tuple #[]) ∧ MapIn B x w' b z xs ∧ KeptX B x w w' := by
  have hbl := h.mv.lt
  have c1 := h.mv.c1
  have f1 := h.mv.f1
  have hB := h.lt
  obtain ⟨va, vn, vc, rfl⟩ := hv.slice
  have H := Lib.hid h
  have HV := Lib.hid hv
  have HN := Lib.hid hx
  have d0 : ((N : Int) == (0 : Int)) = false := by simp; omega
  clear h hv hx
  go_enter Try.func26, Try.ntmps26
  go_wp2_with (first
    | (at_builtin; refine wpList_append_runs0 _ rfl _ _ rfl N xs _ rfl rfl HV.out h0 HN.out (by omega) ?_; intro g1 c1' w1 hg1 hb1 hr1 hc1 hc2; have k1 := cell_kept (hb1.block b hbl) c1; have HA := Lib.hid (And.intro hg1 (And.intro hb1 (And.intro hr1 (And.intro hc1 hc2)))); clear hb1 hr1 hc1 hc2)
    | (at_builtin; refine wpList_append_app _ rfl _ _ rfl g1 N c1' N xs [] (.slice none 0 0) rfl rfl HA.out.2.2.1 HN.out (.inl ⟨rfl, rfl⟩) rfl (by omega) HA.out.2.2.2.2 ?_; intro g2 c2 w2 hA2; have e2 := hA2.kept.block b (Nat.lt_of_lt_of_le hbl HA.out.2.1.size) (by simp; omega); have k2 := cell_kept e2 k1; have j2 := frozen_kept e2 (frozen_kept (HA.out.2.1.block b hbl) f1); have HA2 := Lib.hid hA2; clear hA2; have HE2 := Lib.hid e2; clear e2))
  have hA := HA2.out
  have hr2 := hA.row
  rw [List.append_nil] at hr2
  have hb1 := HA.out.2.1
  have hg2 : w.heap.size ≤ g2 := by
    rcases hA.alt with ⟨_, e, _⟩ | ⟨_, e, _⟩
    · omega
    · have := hb1.size; omega
  have hkx : KeptX B x w w2 := ⟨⟨hA.kept.os.trans hb1.os, hA.kept.tape.trans hb1.tape, hA.kept.output.trans hb1.output, Nat.le_trans hb1.size hA.kept.size, fun k hk => (hA.kept.block k (by have := hb1.size; omega) (by simp; omega)).trans (hb1.block k (by omega))⟩,
    fun k hk => by have hl := H.out.lx k hk; exact (hA.kept.block k (by have := hb1.size; omega) (by simp; omega)).trans (hb1.block k hl)⟩
  have := H.out.store (.slice (some ⟨g2, 0, none⟩) N c2) xs hkx (HE2.out.trans (hb1.block b hbl)) (.inr ⟨g2, N, c2, rfl, HN.out, hA.le, hA.max, hr2⟩) fun k hk => by
    obtain rfl : g2 = k := by simpa [Value.ownBlock] using hk
    exact ⟨by omega, (fun e => by have := H.out.lx g2 e; omega), by omega⟩
  go_end0
  exact ⟨rfl, this.1, this.2⟩

theorem put_end {B : Nat} {x : Nat → Prop} {w w1 w2 : World} {b : Nat} {z : Int} {p q xs : List (Int × Int)} {v : Value} {l : List (Int × Int)} {g t N M g1 c1 g2 c2 f : Nat} (h : MapAt B x w b z v l) (hgB : B ≤ g) (hgx : ¬ x g) (hgb : b ≠ g)
    (hA1 : App w g t p xs N g1 c1 w1) (hA2 : App w1 g1 c1 (p ++ xs) q M g2 c2 w2) (hf : p.length = f) (hN : f + xs.length = N) (hM : N + q.length = M) :
    MapIn B x (w2.setCell ⟨b, 1, none⟩ (.slice (some ⟨g2, 0, none⟩) M c2)) b z (p ++ (xs ++ q)) ∧ KeptX B x w (w2.setCell ⟨b, 1, none⟩ (.slice (some ⟨g2, 0, none⟩) M c2)) := by
  have hbl := h.mv.lt
  have hB := h.lt
  have hs1 := hA1.kept.size
  have h1 : B ≤ g1 ∧ ¬ x g1 ∧ b ≠ g1 := by
    rcases hA1.alt with ⟨_, rfl, _⟩ | ⟨_, e, _⟩
    · exact ⟨hgB, hgx, hgb⟩
    · exact ⟨by omega, (fun e => by have := h.lx g1 e; omega), by omega⟩
  have h2 : B ≤ g2 ∧ ¬ x g2 ∧ b ≠ g2 := by
    rcases hA2.alt with ⟨_, rfl, _⟩ | ⟨_, e, _⟩
    · exact h1
    · exact ⟨by omega, (fun e => by have := h.lx g2 e; omega), by omega⟩
  obtain ⟨h1a, h1b, h1c⟩ := h1
  obtain ⟨h2a, h2b, h2c⟩ := h2
  have hkx : KeptX B x w w2 := ⟨⟨hA2.kept.os.trans hA1.kept.os, hA2.kept.tape.trans hA1.kept.tape, hA2.kept.output.trans hA1.kept.output, Nat.le_trans hA1.kept.size hA2.kept.size,
      fun k hk => (hA2.kept.block k (by omega) (by simp; omega)).trans (hA1.kept.block k (by omega) (by simp; omega))⟩,
    fun k hk => by have hl := h.lx k hk; exact (hA2.kept.block k (by omega) (fun e => h1b (by rw [← Option.some.inj e]; exact hk))).trans (hA1.kept.block k hl (fun e => hgx (by rw [← Option.some.inj e]; exact hk)))⟩
  have e2 := hA2.kept.block b (by omega) (by simpa using h1c)
  have e1 := hA1.kept.block b hbl (by simpa using hgb)
  have hr := hA2.row
  rw [List.append_assoc] at hr
  refine h.store _ _ hkx (e2.trans e1) (.inr ⟨g2, M, c2, rfl, ?_, hA2.le, hA2.max, hr⟩) fun k hk => ?_
  · simp only [List.length_append]; omega
  · obtain rfl : g2 = k := by simpa [Value.ownBlock] using hk
    exact ⟨h2a, h2b, fun e => h2c e.symm⟩
set_option maxHeartbeats 2000000 in
theorem put_some {B : Nat} {x : Nat → Prop} {w : World} {b : Nat} {z : Int} {p m q xs : List (Int × Int)} {g n c : Nat} (h : MapAt B x w b z (.slice (some ⟨g, 0, none⟩) n c) (p ++ (m ++ q))) (hn : (p ++ (m ++ q)).length = n) (hnc : n ≤ c) (hcm : c ≤ maxLen) (hR : Row w g c (p ++ (m ++ q)))
    (f t N : Nat) (hf : p.length = f) (ht : f + m.length = t) (hN : f + xs.length = N) (v : Value) (hv : SrcR w v xs) (hl : n ≤ 100000) (hx : xs.length ≤ 10) :
    Calls Try.prog 26 #[.pointer (some ⟨b, 0, none⟩), .int .i64 (f : Int), .int .i64 (t : Int), v] w fun e w' => e = .returned (.tuple #[]) ∧ MapIn B x w' b z (p ++ (xs ++ q)) ∧ KeptX B x w w' := by
  have hbl := h.mv.lt
  have hgl := hR.lt
  have c1 := h.mv.c1
  have f1 := h.mv.f1
  have hB := h.lt
  have hnu : t + q.length = n := by rw [← hn, ← ht, ← hf]; simp only [List.length_append]; omega
  have htc : t ≤ c := by omega
  have hft : f ≤ t := by omega
  have hN1 : N ≤ 100010 := by omega
  have hRp : Row w g t p := hR.less htc
  obtain ⟨hgB, hgx⟩ := h.hv g rfl
  have hgb : b ≠ g := fun e => h.mv.apart (by simp [Value.ownBlock, e])
  obtain ⟨va, vn, vc, rfl⟩ := hv.slice
  have H := Lib.hid h
  have HV := Lib.hid hv
  have HN := Lib.hid hN
  have HR := Lib.hid hR
  have HP := Lib.hid hRp
  have HF := Lib.hid hf
  have HT := Lib.hid ht
  have HU := Lib.hid hnu
  have HGX := Lib.hid hgx
  have HNN := Lib.hid hn
  have hcm2 : t ≤ maxLen := by omega
  clear h hv hN hR hRp hf ht hnu hgx hn
  by_cases hNt : N = t
  · subst hNt
    go_enter Try.func26, Try.ntmps26
    go_wp2_with (first
      | (at_builtin; refine wpList_append_app _ rfl _ _ rfl g f N N p xs _ rfl rfl HP.out HF.out HV.out HN.out (by omega) hcm2 ?_; intro g1 c1' w1 hA1; have HA1 := Lib.hid hA1; clear hA1))
    have hA := HA1.out
    rcases hA.alt with ⟨_, e1, e2, ho⟩ | ⟨h1, _⟩
    · have hrow := ho.row c (m ++ q) HR.out (by have := HF.out; have := HN.out; omega)
      have hlm : m.length = xs.length := by have := HT.out; have := HN.out; omega
      rw [List.drop_append_of_le_length (by omega), ← hlm, List.drop_length, List.nil_append] at hrow
      refine bodyPost_ret (results_none rfl _ _ _) rfl ⟨rfl, ⟨_, ⟨(hA.kept.block b hbl (by simpa using hgb)).trans H.out.mv.m, .inr ⟨g, n, c, rfl, ?_, hnc, hcm, hrow⟩⟩, H.out.hB, H.out.hx, H.out.hv, fun k hk => Nat.lt_of_lt_of_le (H.out.lx k hk) hA.kept.size⟩, ⟨hA.kept.os, hA.kept.tape, hA.kept.output, hA.kept.size, fun k hk => hA.kept.block k (by omega) (by simp; omega)⟩, fun k hk => hA.kept.block k (H.out.lx k hk) (fun e => HGX.out (by rw [← Option.some.inj e]; exact hk))⟩
      rw [← HNN.out]
      simp only [List.length_append]
      omega
    · omega
  · have d0 : ((N : Int) == (t : Int)) = false := by simp; omega
    obtain ⟨M, hM⟩ : ∃ M, N + q.length = M := ⟨_, rfl⟩
    have hM1 : M ≤ 1000000 := by have := HU.out; omega
    have htn : t ≤ n := by have := HU.out; omega
    have HM := Lib.hid hM
    clear hM
    by_cases hct : c = t
    · subst hct
      go_enter Try.func26, Try.ntmps26
      go_wp2_with (first
        | (at_builtin; refine wpList_append_app _ rfl _ _ rfl g f c N p xs _ rfl rfl HP.out HF.out HV.out HN.out (by omega) hcm2 ?_; intro g1 c1' w1 hA1; have e1 := hA1.kept.block b hbl (by simpa using hgb); have k1 := cell_kept e1 c1; have j1 := frozen_kept e1 f1; have HA1 := Lib.hid hA1; clear hA1; have HE1 := Lib.hid e1; clear e1)
        | (at_builtin; refine wpList_append_app _ rfl _ _ rfl g1 N c1' M (p ++ xs) q _ rfl rfl HA1.out.row (by rw [List.length_append, HF.out]; exact HN.out) (.inr ⟨g, 0, 0, _, rfl, by have := HU.out; omega, fun j hj => by have := HU.out; omega⟩) HM.out hM1 HA1.out.max ?_; intro g2 c2 w2 hA2; have e2 := hA2.kept.block b (Nat.lt_of_lt_of_le hbl HA1.out.kept.size) (by rcases HA1.out.alt with ⟨_, e, _⟩ | ⟨_, e, _⟩ <;> simp <;> omega); have k2 := cell_kept e2 k1; have j2 := frozen_kept e2 j1; have HA2 := Lib.hid hA2; clear hA2 e2))
      have := put_end H.out hgB HGX.out hgb HA1.out HA2.out HF.out HN.out HM.out
      go_end0
      exact ⟨rfl, this.1, this.2⟩
    · have htc2 : t < c := by omega
      go_enter Try.func26, Try.ntmps26
      go_wp2_with (first
        | (at_builtin; refine wpList_append_app _ rfl _ _ rfl g f t N p xs _ rfl rfl HP.out HF.out HV.out HN.out (by omega) hcm2 ?_; intro g1 c1' w1 hA1; have e1 := hA1.kept.block b hbl (by simpa using hgb); have k1 := cell_kept e1 c1; have j1 := frozen_kept e1 f1; have HA1 := Lib.hid hA1; clear hA1; have HE1 := Lib.hid e1; clear e1)
        | (at_builtin; refine wpList_append_app _ rfl _ _ rfl g1 N c1' M (p ++ xs) q _ rfl rfl HA1.out.row (by rw [List.length_append, HF.out]; exact HN.out) (.inr ⟨g, t * 2, n - t, c - t, rfl, by have := HU.out; omega, HA1.out.src HR.out HF.out HT.out HN.out htc⟩) HM.out hM1 HA1.out.max ?_; intro g2 c2 w2 hA2; have e2 := hA2.kept.block b (Nat.lt_of_lt_of_le hbl HA1.out.kept.size) (by rcases HA1.out.alt with ⟨_, e, _⟩ | ⟨_, e, _⟩ <;> simp <;> omega); have k2 := cell_kept e2 k1; have j2 := frozen_kept e2 j1; have HA2 := Lib.hid hA2; clear hA2 e2))
      have := put_end H.out hgB HGX.out hgb HA1.out HA2.out HF.out HN.out HM.out
      go_end0
      exact ⟨rfl, this.1, this.2⟩
theorem put_ok {B : Nat} {x : Nat → Prop} {w : World} {b : Nat} {z : Int} {p m q xs : List (Int × Int)} (h : MapIn B x w b z (p ++ (m ++ q))) (f t : Nat) (hf : p.length = f) (ht : f + m.length = t) (v : Value) (hv : SrcR w v xs)
    (h0 : p ++ (m ++ q) = [] → 0 < xs.length) (hl : (p ++ (m ++ q)).length ≤ 100000) (hx : xs.length ≤ 10) :
    Calls Try.prog 26 #[.pointer (some ⟨b, 0, none⟩), .int .i64 (f : Int), .int .i64 (t : Int), v] w fun e w' => e = .returned (.tuple #[]) ∧ MapIn B x w' b z (p ++ (xs ++ q)) ∧ KeptX B x w w' := by
  obtain ⟨vm, h⟩ := h
  rcases h.mv.r with ⟨rfl, hnil⟩ | ⟨g, n, c, rfl, hn, hnc, hcm, hR⟩
  · have hx0 := h0 hnil
    obtain ⟨hp0, hmq⟩ := List.append_eq_nil_iff.1 hnil
    obtain ⟨hm0, hq0⟩ := List.append_eq_nil_iff.1 hmq
    subst hp0 hm0 hq0
    obtain rfl : f = 0 := hf.symm
    obtain rfl : t = 0 := by simpa using ht.symm
    have := put_nil h v hv _ hx0 rfl hx
    simpa using this
  · exact put_some h hn hnc hcm hR f t _ hf ht rfl v hv (by omega) hx
end Go.Proofs.Ytoiiaacjpobaeaa
