/-
  Write.
-/
import Derived.Test.YtmkheikllbjcbaaDm
import Derived.Lib.LazyBuf
import Derived.Lib.SlBuf
import Derived.Lib.AppendZeros
import Derived.Maps.AppendAt
import Derived.Deep.RegionHeld3
namespace Go.Proofs.Ytmkheikllbjcbaa
open Go.RowKit Go.Maps

/-- What is written stands behind what was written before. -/
def Dv.put (S : Dv) (k : Nat) (x : Sec) : Dv := { S with since := fun i => if i = k then S.since k ++ [x] else S.since i, cnt := S.cnt + 1 }
theorem info_sec : ∃ i z, Try.prog.info? 64 = some i ∧ i.zero = some z ∧ i.size = 64 ∧ i.bytes = 64 ∧ z.cells.size = 64 := by
  obtain ⟨i, h1, h2, h3, h4⟩ := info_parts (P := Try.prog) (e := 64) (z := .agg (Array.replicate 64 (.int .u8 0))) (size := 64) (bytes := 64) (by kernel_rfl)
  exact ⟨i, _, h1, h2, h3, h4, by simp [Value.cells]⟩
theorem grown_turn {fp : Nat → Prop} {w w' : World} {v : Option Nat} (h : w.grownBy w' v) (hv : ∀ k, v = some k → fp k) : Turn fp w w' :=
  ⟨h.os, h.tape, h.output, h.size, fun k hk hn => h.block k hk (fun e => hn (hv k e.symm))⟩

theorem write_core {W : World} {b mb cb m : Nat} {hd : Nat → Nat × Nat} {S : Dv} {fp : Nat → Prop} (h : DevIn W b mb cb m hd S fp) (k : Nat) (hk : k < S.med.length) (q : Nat) (x : Sec) (hx : x.length = 64) (hq : W.rangeAt q 0 (secCells x)) (hc : S.cnt < 4294967296) (ty : TypeId) :
    ∃ g c w1 w2, (Builtin.append_ #[58, 58] ty #[(hdOf S hd k).val, .slice (some ⟨q, 0, none⟩) 1 1]).run Try.prog W = .ok (.slice (some ⟨g, 0, none⟩) ((S.since k).length + 1) c) w1 ∧
      (Instr.mapUpdate 59 (.map (some cb)) (.int .i64 (k : Int)) (.slice (some ⟨g, 0, none⟩) ((S.since k).length + 1) c)).run Try.prog w1 = .ok () w2 ∧
      Turn fp W w1 ∧ w1.cell? ⟨b, 1, none⟩ = some (.map (some cb)) ∧ w2.cell? ⟨b, 1, none⟩ = some (.map (some cb)) ∧ Did fp b (S.put k x) W w2 := by
  obtain ⟨i, z, hi, hz, hs, hb, hzs⟩ := info_sec
  have hn2 := h.ok.n2
  have hlen := h.ok.cnts k
  have hown : W.ownsRow 0 64 64 (hdOf S hd k).val (S.since k).length (flat (S.since k)) := by
    unfold hdOf
    by_cases e : S.since k = []
    · rw [if_pos (.inr (by simpa using e)), e]
      exact World.ownsRow_nil _ _ _ _
    · rw [if_neg (by simpa using e)]
      exact (h.vers k e).owns 0 (Nat.zero_le _)
  have hblk : ∀ j, ((hdOf S hd k).val).ownBlock = some j → S.since k ≠ [] ∧ j = (hd k).1 := by
    intro j
    unfold hdOf
    by_cases e : S.since k = []
    · rw [if_pos (.inr (by simpa using e))]
      intro h; cases h
    · rw [if_neg (by simpa using e)]
      intro h; cases h
      exact ⟨e, rfl⟩
  obtain ⟨v', w1, hr1, ho1, hg1, _, hloc⟩ := run_append_own_at (P := Try.prog) W 0 58 ty 64 i z 64 64 Try.underlying58 hi hz hs hb hzs (by decide) _ _ _ hown ⟨q, 0, none⟩ 1 1 (secCells x)
    (by rw [secCells_len, hx]) (fun j u hu => by have := hq j u hu; rw [Addr.add_mid]; exact this) (secCells_one x) (by unfold maxLen; omega) (by omega) (Nat.zero_le _)
  rcases ho1.2 with ⟨_, h0⟩ | ⟨g, c, cur, rfl, _, hcur, _⟩
  · omega
  have hall : ∀ s ∈ S.since k ++ [x], s.length = 64 := by
    intro s hs
    rcases List.mem_append.1 hs with hs | hs
    · exact (h.vers k (List.ne_nil_of_mem hs)).len s hs
    · rw [List.mem_singleton.1 hs]; exact hx
  have hrow : Rows w1 g c (S.since k ++ [x]) := by
    refine rows_of_owns (B := 0) (n := (S.since k).length + 1) (by simp) ?_ hall
    have e : flat (S.since k ++ [x]) = flat (S.since k) ++ secCells x := by rw [flat_app]; simp [flat]
    rw [e]
    exact ho1
  have ht1 : Turn fp W w1 := grown_turn hg1 fun j hj => by obtain ⟨e1, rfl⟩ := hblk j hj; exact h.fv k e1
  have hgl : (S.since k ≠ [] ∧ g = (hd k).1) ∨ g = W.heap.size := by
    rcases hloc with e | e
    · exact .inl (hblk g (by rw [← e]; rfl))
    · right; simpa [Value.ownBlock] using e
  have hsame : ∀ j, j < W.heap.size → (S.since k ≠ [] → j ≠ (hd k).1) → w1.heap[j]? = W.heap[j]? := fun j hj hne => hg1.block j hj (fun e => by
    obtain ⟨e1, e2⟩ := hblk j e.symm
    exact hne e1 e2)
  have hmap1 : CMap w1 cb m (hdOf S hd) := h.map.same (hsame cb h.map.lt fun e => h.cv k e)
  have hm := h.mle
  obtain ⟨w2, hr2, hmap2, ht2⟩ := hmap1.put (k : Int) (wfN k (by omega)) (g, (S.since k).length + 1, c) (by unfold maxLen; omega)
  have hb1 : w1.heap[b]? = W.heap[b]? := hsame b h.blt fun e => h.bv k e
  have hg2 := ht2.grown
  have hsame2 : ∀ j, j < w1.heap.size → j ≠ cb → w2.heap[j]? = w1.heap[j]? := fun j hj hne => hg2.block j hj (fun e => by cases e; exact hne rfl)
  have hz1 := hg1.size
  have hcb1 : cb < w1.heap.size := hmap1.lt
  have hgcb : g ≠ cb := by
    intro e
    obtain ⟨es, cl, hm⟩ := hmap1.isMap
    rw [← e, hcur] at hm
    cases hm
  have hb2 : w2.heap[b]? = W.heap[b]? := (hsame2 b (Nat.lt_of_lt_of_le h.blt hz1) h.cbb.symm).trans hb1
  have hgne : ∀ j, S.since j ≠ [] → j ≠ k → (hd j).1 ≠ g := by
    intro j hj hjk e
    rcases hgl with ⟨e1, e2⟩ | e1
    · exact hjk (h.inj j k hj e1 (e.trans e2))
    · have := h.lt _ (h.fv j hj); omega
  have hgmb : g ≠ mb := by
    intro e
    rcases hgl with ⟨e1, e2⟩ | e1
    · exact h.apart k e1 (e2.symm.trans e)
    · have := h.med.lt; omega
  refine ⟨g, c, w1, w2, hr1, hr2, ht1, ?_, ?_, fun j => fp j ∨ j = g, ⟨mb, cb, m + 1, fun j => if j = k then (g, c) else hd j, ?_⟩, ?_, ht1.mapTurned h.fc ht2⟩
  · rw [World.cell?_of_block (w := W) hb1]; exact h.c1
  · rw [World.cell?_of_block (w := W) hb2]; exact h.c1
  · have hput : ∀ j, (S.put k x).since j = if j = k then S.since k ++ [x] else S.since j := fun _ => rfl
    refine ⟨⟨h.ok.n1, h.ok.n2, fun j hj => ?_, h.ok.left, fun j => ?_⟩, hb2.trans h.blk, ?_, ?_, by show m + 1 ≤ S.cnt + 1; omega, fun j hj => ?_, fun j j' hj hj' he => ?_, fun j hj => ?_, .inl h.fb, .inl h.fm, .inl h.fc, fun j hj => ?_, fun j hj => ?_⟩
    · have hj' : S.med.length ≤ j := hj
      rw [hput, if_neg (by omega)]; exact h.ok.out j hj
    · have := h.ok.cnts j
      rw [hput]
      show _ ≤ S.cnt + 1
      split
      · simp; omega
      · omega
    · exact h.med.same ((hsame2 mb (Nat.lt_of_lt_of_le h.med.lt hz1) h.cmb.symm).trans (hsame mb h.med.lt fun e => (h.apart k e).symm))
    · refine hmap2.congr fun j hj => ?_
      unfold hdOf
      by_cases e : j = (k : Int)
      · subst e
        simp [hput]
      · simp only [if_neg e]
        by_cases e2 : j < 0
        · simp [e2]
        · have e3 : ¬ j.toNat = k := by omega
          simp [hput, e3]
    · rw [hput] at hj ⊢
      by_cases e : j = k
      · subst e
        simp only [if_true]
        exact hrow.same (hsame2 g hrow.lt hgcb)
      · simp only [if_neg e] at hj ⊢
        have hv := h.vers j hj
        exact hv.same ((hsame2 _ (Nat.lt_of_lt_of_le hv.lt hz1) (h.cv j hj).symm).trans (hsame _ hv.lt fun e1 e2 => e (h.inj j k hj e1 e2)))
    · rw [hput] at hj hj'
      by_cases e : j = k
      · by_cases e' : j' = k
        · omega
        · simp only [if_neg e'] at hj' he
          simp only [if_pos e] at he
          exact absurd he.symm (hgne j' hj' e')
      · simp only [if_neg e] at hj he
        by_cases e' : j' = k
        · simp only [if_pos e'] at he
          exact absurd he (hgne j hj e)
        · simp only [if_neg e'] at hj' he
          exact h.inj j j' hj hj' he
    · rw [hput] at hj
      by_cases e : j = k
      · simp only [if_pos e]; exact hgmb
      · simp only [if_neg e] at hj ⊢
        exact h.apart j hj
    · rw [hput] at hj
      by_cases e : j = k
      · simp only [if_pos e]; exact .inr trivial
      · simp only [if_neg e] at hj ⊢
        exact .inl (h.fv j hj)
    · rw [mapTurned_size ht2]
      rcases hj with hj | rfl
      · exact Nat.lt_of_lt_of_le (h.lt j hj) hz1
      · exact hrow.lt
  · intro j hj
    rcases hj with hj | rfl
    · exact .inl hj
    · rcases hgl with ⟨e1, e2⟩ | e1
      · left; rw [e2]; exact h.fv k e1
      · right; omega
end Go.Proofs.Ytmkheikllbjcbaa
