/-
  Side by side: more.
-/
import Derived.Test.YtmkheikllbjcbaaEg
namespace Go.Proofs.Ytmkheikllbjcbaa
open Go.RowKit Go.Maps

theorem Both.devB {B : Nat} {F : Nat → Prop} {w : World} {b rb : Nat} {S R S2 : Dv} (h : Both B F w b rb S R) (hB : B ≤ w.heap.size) {f : FuncId} {args : Array Value} {v : Value}
    (H : ∀ fp, DevAt w b S fp → (∀ k, fp k → B ≤ k) → Calls Try.prog f args w fun e w' => e = .returned v ∧ Did fp b S2 w w') : Calls Try.prog f args w fun e w' => e = .returned v ∧ Both B F w' b rb S2 R ∧ Below B w w' ∧ Kept F w w' := by
  obtain ⟨fp, rp, hd, ⟨mb, mc, sb, sc, hdd, hr⟩, h1, h2, h3, h4⟩ := h
  refine (H fp hd h1).mono fun e w' ⟨he, fp', hd', h5, ht⟩ => ⟨he, ⟨fp', rp, hd', ⟨mb, mc, sb, sc, hdd, hr.same ht.size fun k hk => ht.block k (hr.v.lt k hk) fun e => h3 k e hk⟩, fun k hk => ?_, h2, fun k hk hk2 => ?_, fun k hk => ?_⟩, ht.below h1 hB, fun k hk => ht.block k (h4 k hk).2.2 (h4 k hk).1⟩
  · rcases h5 k hk with h | h
    · exact h1 k h
    · omega
  · rcases h5 k hk with h | h
    · exact h3 k h hk2
    · have := hr.v.lt k hk2; omega
  · obtain ⟨f1, f2, f3⟩ := h4 k hk
    exact ⟨fun e => by rcases h5 k e with h | h; exact f1 h; omega, f2, Nat.lt_of_lt_of_le f3 ht.size⟩
/-- The variable is given what a call answered. -/
theorem ref_assign {w w4 : World} {rb mb mc sb sc mb' mc' sb' sc' : Nat} {hd hd' : Nat → Nat × Nat} {R R2 : Dv} {rp rp' : Nat → Prop} (h : RefIn w rb mb mc sb sc hd R rp) (b4 : Below w.heap.size w w4) (hV : RefV w4 mb' mc' sb' sc' hd' R2 rp') (hrp : ∀ k, rp' k → w.heap.size ≤ k) :
    RDid rp rb R2 w (set4 w4 rb (.slice (some ⟨mb', 0, none⟩) R2.med.length mc') (.slice (some ⟨sb', 0, none⟩) R2.med.length sc') (.bool R2.lost) (.int .i64 (fuseV R2))) := by
  have hrl : rb < w.heap.size := h.v.lt rb h.fb
  have hblk : w4.heap[rb]? = some (.cells (refCells R mb mc sb sc) 45 (0, 0)) := (b4.block rb hrl).trans h.blk
  refine ⟨fun k => rp' k ∨ k = rb, ⟨mb', mc', sb', sc', hd', ⟨?_, ?_, .inr rfl⟩⟩, fun k hk => ?_, ?_⟩
  · have hv := hV.same (w' := set4 w4 rb (.slice (some ⟨mb', 0, none⟩) R2.med.length mc') (.slice (some ⟨sb', 0, none⟩) R2.med.length sc') (.bool R2.lost) (.int .i64 (fuseV R2))) (Nat.le_of_eq (set4_size w4 rb _ _ _ _).symm) fun k hk => set4_same _ _ _ _ _ _ _ (by have := hrp k hk; omega)
    exact ⟨hv.ok, hv.med, hv.sin, hv.vers, hv.inj, hv.apart, .inl hv.fm, .inl hv.fs, fun i hi => .inl (hv.fv i hi), fun k hk => by rcases hk with hk | rfl; exact hv.lt k hk; rw [set4_size]; exact Nat.lt_of_lt_of_le hrl b4.size⟩
  · unfold set4
    have e1 := setCell_block hblk 0 (.slice (some ⟨mb', 0, none⟩) R2.med.length mc')
    have e2 := setCell_block e1 1 (.slice (some ⟨sb', 0, none⟩) R2.med.length sc')
    have e3 := setCell_block e2 2 (.bool R2.lost)
    have e4 := setCell_block e3 3 (.int .i64 (fuseV R2))
    rw [e4]
    simp [refCells]
  · rcases hk with hk | rfl
    · exact .inr (hrp k hk)
    · exact .inl h.fb
  · have t4 : Turn rp w w4 := Turn.of_below b4
    unfold set4
    exact (((t4.setCell (.inl h.fb) _).setCell (.inl h.fb) _).setCell (.inl h.fb) _).setCell (.inl h.fb) _
/-- What is written, in the document's device: as its Write. -/
theorem ref_core {W : World} {rb mb mc sb sc : Nat} {hd : Nat → Nat × Nat} {R : Dv} {rp : Nat → Prop} (h : RefIn W rb mb mc sb sc hd R rp) (k : Nat) (hk : k < R.med.length) (q : Nat) (x : Sec) (hq : W.cell? ⟨q, 0, none⟩ = some (.string (strOf x))) (hc : R.cnt < 4294967296) (ty : TypeId) :
    ∃ g c w1, (Builtin.append_ #[42, 42] ty #[(rvOf R hd k).val, .slice (some ⟨q, 0, none⟩) 1 1]).run Try.prog W = .ok (.slice (some ⟨g, 0, none⟩) ((R.since k).length + 1) c) w1 ∧ Turn rp W w1 ∧
      w1.cell? ⟨rb, 1, none⟩ = some (.slice (some ⟨sb, 0, none⟩) R.med.length sc) ∧ w1.cell? ⟨sb, k, none⟩ = some (rvOf R hd k).val ∧ w1.frozen? ⟨sb, k, none⟩ = false ∧
      RDid rp rb (R.put k x) W (w1.setCell ⟨sb, k, none⟩ (.slice (some ⟨g, 0, none⟩) ((R.since k).length + 1) c)) := by
  obtain ⟨i, hi, hz, hs, hb⟩ := info_str
  have hlen := h.v.ok.cnts k
  have hown : W.ownsRow 0 9 1 (rvOf R hd k).val (R.since k).length (strCells (R.since k)) := by
    unfold rvOf
    by_cases e : R.since k = []
    · rw [if_pos e, e]
      exact World.ownsRow_nil _ _ _ _
    · rw [if_neg e]
      exact (h.v.vers k e).owns 0 (Nat.zero_le _)
  have hblk : ∀ j, ((rvOf R hd k).val).ownBlock = some j → R.since k ≠ [] ∧ j = (hd k).1 := by
    intro j
    unfold rvOf
    by_cases e : R.since k = []
    · rw [if_pos e]
      intro h; cases h
    · rw [if_neg e]
      intro h; cases h
      exact ⟨e, rfl⟩
  obtain ⟨v', w1, hr1, ho1, hg1, _, hloc⟩ := run_append_own_at (P := Try.prog) W 0 42 ty 9 i (.string ⟨#[]⟩) 1 16 Try.underlying42 hi hz hs hb rfl (by decide) _ _ _ hown ⟨q, 0, none⟩ 1 1 [.string (strOf x)]
    rfl (fun j u hu => by
      have hj : j = 0 := by have := (List.getElem?_eq_some_iff.1 hu).1; simp at this; exact this
      subst hj
      rw [Addr.add_mid, hq]; simpa using hu) (fun u hu => by rw [List.mem_singleton.1 hu]; rfl) (by unfold maxLen; omega) (by omega) (Nat.zero_le _)
  rcases ho1.2 with ⟨_, h0⟩ | ⟨g, c, cur, rfl, _, hcur, _⟩
  · omega
  have hrow : Strs w1 g c (R.since k ++ [x]) := by
    refine strs_of_owns (B := 0) (n := (R.since k).length + 1) (by simp) ?_
    have e : strCells (R.since k ++ [x]) = strCells (R.since k) ++ [.string (strOf x)] := by simp [strCells]
    rw [e]
    exact ho1
  have ht1 : Turn rp W w1 := grown_turn hg1 fun j hj => by obtain ⟨e1, rfl⟩ := hblk j hj; exact h.v.fv k e1
  have hgl : (R.since k ≠ [] ∧ g = (hd k).1) ∨ g = W.heap.size := by
    rcases hloc with e | e
    · exact .inl (hblk g (by rw [← e]; rfl))
    · right; simpa [Value.ownBlock] using e
  have hsame : ∀ j, j < W.heap.size → (R.since k ≠ [] → j ≠ (hd k).1) → w1.heap[j]? = W.heap[j]? := fun j hj hne => hg1.block j hj (fun e => by
    obtain ⟨e1, e2⟩ := hblk j e.symm
    exact hne e1 e2)
  have hz1 := hg1.size
  have hb1 : w1.heap[rb]? = W.heap[rb]? := hsame rb (h.v.lt _ h.fb) fun e => h.rv k e
  have hs1 := h.v.sin.same (hsame sb h.v.sin.lt fun e => h.v.sv k e)
  have hm1 := h.v.med.same (hsame mb h.v.med.lt fun e => (h.v.apart k e).symm)
  have hgne : ∀ j, R.since j ≠ [] → j ≠ k → (hd j).1 ≠ g := by
    intro j hj hjk e
    rcases hgl with ⟨e1, e2⟩ | e1
    · exact hjk (h.v.inj j k hj e1 (e.trans e2))
    · have := h.v.lt _ (h.v.fv j hj); omega
  have hgmb : g ≠ mb := by
    intro e
    rcases hgl with ⟨e1, e2⟩ | e1
    · exact h.v.apart k e1 (e2.symm.trans e)
    · have := h.v.med.lt; omega
  have hgsb : g ≠ sb := by
    intro e
    obtain ⟨cur1, hc1, _⟩ := hrow.shape
    obtain ⟨cur2, hc2, _⟩ := hs1.shape
    rw [e, hc2] at hc1
    cases hc1
  have ho : ∀ j, j ≠ sb → (w1.setCell ⟨sb, k, none⟩ (.slice (some ⟨g, 0, none⟩) ((R.since k).length + 1) c)).heap[j]? = w1.heap[j]? := fun j hj => Below.heap_setCell _ _ _ _ hj
  have hput : ∀ j, (R.put k x).since j = if j = k then R.since k ++ [x] else R.since j := fun _ => rfl
  refine ⟨g, c, w1, hr1, ht1, ?_, hs1.cells k hk, hs1.frozen k, fun j => rp j ∨ j = g, ⟨mb, mc, sb, sc, fun j => if j = k then (g, c) else hd j, ⟨⟨⟨h.v.ok.n1, h.v.ok.n2, fun j hj => ?_, h.v.ok.left, fun j => ?_⟩, hm1.same (ho _ h.v.sm.symm), ?_, fun j hj => ?_, fun j j' hj hj' he => ?_, fun j hj => ?_, .inl h.v.fm, .inl h.v.fs, fun j hj => ?_, fun j hj => ?_⟩, ?_, .inl h.fb⟩⟩, fun j hj => ?_, ht1.setCell (.inl h.v.fs) _⟩
  · rw [World.cell?_of_block (w := W) hb1]; exact h.c1
  · have hj' : R.med.length ≤ j := hj
    rw [hput, if_neg (by omega)]; exact h.v.ok.out j hj
  · have := h.v.ok.cnts j
    rw [hput]
    show _ ≤ R.cnt + 1
    split
    · simp; omega
    · omega
  · refine (hs1.set k hk (some (g, (R.since k).length + 1, c))).congr fun j _ => ?_
    unfold rvOf
    by_cases e : j = k
    · subst e
      simp [hput]
    · simp [hput, e]
  · rw [hput] at hj ⊢
    by_cases e : j = k
    · subst e
      simp only [if_true]
      exact hrow.same (ho g hgsb)
    · simp only [if_neg e] at hj ⊢
      have hv := h.v.vers j hj
      exact (hv.same (hsame _ hv.lt fun e1 e2 => e (h.v.inj j k hj e1 e2))).same (ho _ (h.v.sv j hj).symm)
  · rw [hput] at hj hj'
    by_cases e : j = k
    · by_cases e' : j' = k
      · omega
      · simp only [if_neg e'] at hj' he
        simp only [if_pos e] at he
        exact absurd he.symm (hgne j' hj' e')
    · simp only [if_neg e] at hj he
      by_cases e' : j' = k
      · simp only [if_pos e'] at he
        exact absurd he (hgne j hj e)
      · simp only [if_neg e'] at hj' he
        exact h.v.inj j j' hj hj' he
  · rw [hput] at hj
    by_cases e : j = k
    · simp only [if_pos e]; exact hgmb
    · simp only [if_neg e] at hj ⊢
      exact h.v.apart j hj
  · rw [hput] at hj
    by_cases e : j = k
    · simp only [if_pos e]; exact .inr trivial
    · simp only [if_neg e] at hj ⊢
      exact .inl (h.v.fv j hj)
  · rcases hj with hj | rfl
    · simpa [World.setCell] using Nat.lt_of_lt_of_le (h.v.lt j hj) hz1
    · simpa [World.setCell] using hrow.lt
  · rw [ho _ h.rs, hb1, h.blk]
    rfl
  · rcases hj with hj | rfl
    · exact .inl hj
    · rcases hgl with ⟨e1, e2⟩ | e1
      · left; rw [e2]; exact h.v.fv k e1
      · right; omega
end Go.Proofs.Ytmkheikllbjcbaa
