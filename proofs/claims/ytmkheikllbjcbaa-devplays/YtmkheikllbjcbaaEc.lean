/-
  The document's New.
-/
import Derived.Test.YtmkheikllbjcbaaEb
namespace Go.Proofs.Ytmkheikllbjcbaa
open Go.RowKit Go.Maps

theorem info_str : ∃ i, Try.prog.info? 9 = some i ∧ i.zero = some (.string ⟨#[]⟩) ∧ i.size = 1 ∧ i.bytes = 16 := info_parts (by kernel_rfl)
theorem info_strs : ∃ i, Try.prog.info? 42 = some i ∧ i.zero = some (.slice none 0 0) ∧ i.size = 1 ∧ i.bytes = 24 := info_parts (by kernel_rfl)
/-- A device of the document's on its way: block ob. -/
structure Out (w : World) (B ob : Nat) (f : Int) (vm vs : Value) (l : List Sec) (t : Nat) : Prop where
  blk : w.heap[ob]? = some (.cells #[vm, vs, .bool false, .int .i64 f] 45 (0, 0))
  m : w.ownsRow B 9 1 vm l.length (strCells l)
  s : w.ownsRow B 42 1 vs t (List.replicate t (.slice none 0 0))
  ob : B ≤ ob
theorem Out.below {w w' : World} {B ob : Nat} {f : Int} {vm vs : Value} {l : List Sec} {t : Nat} (h : Out w B ob f vm vs l t) (hb : Below w.heap.size w w') : Out w' B ob f vm vs l t := by
  have hg : w.grownBy w' none := ⟨hb.os, hb.tape, hb.output, hb.size, fun k hk _ => hb.block k hk⟩
  exact ⟨(hb.block _ (Array.getElem?_eq_some_iff.1 h.blk).1).trans h.blk, h.m.kept hg (by by_cases e : vm.ownBlock = none; exact .inl e; exact .inr e), h.s.kept hg (by by_cases e : vs.ownBlock = none; exact .inl e; exact .inr e), h.ob⟩
theorem row_block {w : World} {B : Nat} {e : TypeId} {v : Value} {n : Nat} {xs : List Value} (h : w.ownsRow B e 1 v n xs) {k : Nat} (hk : v.ownBlock = some k) : ∃ cur, w.heap[k]? = some (.cells cur e (0, 0)) := by
  rcases h.2 with ⟨rfl, _⟩ | ⟨g, c, cur, rfl, _, hg, _⟩
  · cases hk
  · simp [Value.ownBlock] at hk
    subst hk
    exact ⟨cur, hg⟩
theorem Out.c0 {w : World} {B ob : Nat} {f : Int} {vm vs : Value} {l : List Sec} {t : Nat} (h : Out w B ob f vm vs l t) : w.cell? ⟨ob, 0, none⟩ = some vm := by simp [World.cell?, h.blk]
theorem Out.c1 {w : World} {B ob : Nat} {f : Int} {vm vs : Value} {l : List Sec} {t : Nat} (h : Out w B ob f vm vs l t) : w.cell? ⟨ob, 1, none⟩ = some vs := by simp [World.cell?, h.blk]
theorem Out.fr {w : World} {B ob : Nat} {f : Int} {vm vs : Value} {l : List Sec} {t : Nat} (h : Out w B ob f vm vs l t) (o : Nat) : w.frozen? ⟨ob, o, none⟩ = false := by simp [World.frozen?, h.blk]
theorem out_med {W : World} {B ob : Nat} {f : Int} {vm vs : Value} {l : List Sec} {t : Nat} (h : Out W B ob f vm vs l t) (q : Nat) (x : Sec) (hq : W.cell? ⟨q, 0, none⟩ = some (.string (strOf x))) (hB : B ≤ W.heap.size) (hl : l.length < 4294967296) (ty : TypeId) :
    ∃ g c w1, (Builtin.append_ #[42, 42] ty #[vm, .slice (some ⟨q, 0, none⟩) 1 1]).run Try.prog W = .ok (.slice (some ⟨g, 0, none⟩) (l.length + 1) c) w1 ∧ w1.cell? ⟨ob, 0, none⟩ = some vm ∧ w1.frozen? ⟨ob, 0, none⟩ = false ∧
      Out (w1.setCell ⟨ob, 0, none⟩ (.slice (some ⟨g, 0, none⟩) (l.length + 1) c)) B ob f (.slice (some ⟨g, 0, none⟩) (l.length + 1) c) vs (l ++ [x]) t ∧ Below B W (w1.setCell ⟨ob, 0, none⟩ (.slice (some ⟨g, 0, none⟩) (l.length + 1) c)) := by
  obtain ⟨i, hi, hz, hs, hb⟩ := info_str
  obtain ⟨v', w1, hr1, ho1, hg1, _, hloc⟩ := run_append_own_at (P := Try.prog) W B 42 ty 9 i (.string ⟨#[]⟩) 1 16 Try.underlying42 hi hz hs hb rfl (by decide) vm _ _ h.m ⟨q, 0, none⟩ 1 1 [.string (strOf x)]
    rfl (fun j u hu => by
      have hj : j = 0 := by have := (List.getElem?_eq_some_iff.1 hu).1; simp at this; exact this
      subst hj
      rw [Addr.add_mid, hq]; simpa using hu) (fun u hu => by rw [List.mem_singleton.1 hu]; rfl) (by unfold maxLen; omega) (by omega) hB
  rcases ho1.2 with ⟨_, h0⟩ | ⟨g, c, cur, rfl, hBg, hcur, r1, r2, r3, r4⟩
  · omega
  have hobW : ob < W.heap.size := (Array.getElem?_eq_some_iff.1 h.blk).1
  have hob1 : w1.heap[ob]? = W.heap[ob]? := hg1.block ob hobW fun e => by
    obtain ⟨cur, hc⟩ := row_block h.m e.symm
    rw [h.blk] at hc
    cases hc
  have hblk1 := hob1.trans h.blk
  have hgob : g ≠ ob := fun e => by rw [e, hblk1] at hcur; cases hcur
  refine ⟨g, c, w1, hr1, by simp [World.cell?, hblk1], by simp [World.frozen?, hblk1], ⟨?_, ?_, ?_, h.ob⟩, ?_⟩
  · rw [setCell_block hblk1]
    simp
  · have e : strCells (l ++ [x]) = strCells l ++ [.string (strOf x)] := by simp [strCells]
    rw [List.length_append, e]
    exact ⟨ho1.1, .inr ⟨g, c, cur, rfl, hBg, (Below.heap_setCell _ _ _ _ hgob).trans hcur, r1, r2, r3, r4⟩⟩
  · have hs1 := h.s.kept hg1 (by
      by_cases e : vs.ownBlock = none
      · exact .inl e
      · right
        intro e'
        obtain ⟨k, hk⟩ := Option.ne_none_iff_exists'.1 e
        obtain ⟨cur1, hc1⟩ := row_block h.s hk
        obtain ⟨cur2, hc2⟩ := row_block h.m (e' ▸ hk)
        rw [hc1] at hc2
        cases hc2)
    refine ⟨hs1.1, ?_⟩
    rcases hs1.2 with hn | ⟨g', c', cur', rfl, hB', hg', rest⟩
    · exact .inl hn
    · exact .inr ⟨g', c', cur', rfl, hB', (Below.heap_setCell _ _ _ _ (fun e => by rw [e, hblk1] at hg'; cases hg')).trans hg', rest⟩
  · exact ((Below.refl B W).grown hg1 hB fun k hk => (h.m.lt k hk).1).setCell h.ob _
theorem out_sin {W : World} {B ob : Nat} {f : Int} {vm vs : Value} {l : List Sec} {t : Nat} (h : Out W B ob f vm vs l t) (q : Nat) (hq : W.cell? ⟨q, 0, none⟩ = some (.slice none 0 0)) (hB : B ≤ W.heap.size) (hl : t < 4294967296) (ty : TypeId) :
    ∃ g c w1, (Builtin.append_ #[43, 43] ty #[vs, .slice (some ⟨q, 0, none⟩) 1 1]).run Try.prog W = .ok (.slice (some ⟨g, 0, none⟩) (t + 1) c) w1 ∧ w1.cell? ⟨ob, 1, none⟩ = some vs ∧ w1.frozen? ⟨ob, 1, none⟩ = false ∧
      Out (w1.setCell ⟨ob, 1, none⟩ (.slice (some ⟨g, 0, none⟩) (t + 1) c)) B ob f vm (.slice (some ⟨g, 0, none⟩) (t + 1) c) l (t + 1) ∧ Below B W (w1.setCell ⟨ob, 1, none⟩ (.slice (some ⟨g, 0, none⟩) (t + 1) c)) := by
  obtain ⟨i, hi, hz, hs, hb⟩ := info_strs
  obtain ⟨v', w1, hr1, ho1, hg1, _, hloc⟩ := run_append_own_at (P := Try.prog) W B 43 ty 42 i (.slice none 0 0) 1 24 Try.underlying43 hi hz hs hb rfl (by decide) vs _ _ h.s ⟨q, 0, none⟩ 1 1 [.slice none 0 0]
    rfl (fun j u hu => by
      have hj : j = 0 := by have := (List.getElem?_eq_some_iff.1 hu).1; simp at this; exact this
      subst hj
      rw [Addr.add_mid, hq]; simpa using hu) (fun u hu => by rw [List.mem_singleton.1 hu]; rfl) (by unfold maxLen; omega) (by omega) hB
  rcases ho1.2 with ⟨_, h0⟩ | ⟨g, c, cur, rfl, hBg, hcur, r1, r2, r3, r4⟩
  · omega
  have hobW : ob < W.heap.size := (Array.getElem?_eq_some_iff.1 h.blk).1
  have hob1 : w1.heap[ob]? = W.heap[ob]? := hg1.block ob hobW fun e => by
    obtain ⟨cur, hc⟩ := row_block h.s e.symm
    rw [h.blk] at hc
    cases hc
  have hblk1 := hob1.trans h.blk
  have hgob : g ≠ ob := fun e => by rw [e, hblk1] at hcur; cases hcur
  refine ⟨g, c, w1, hr1, by simp [World.cell?, hblk1], by simp [World.frozen?, hblk1], ⟨?_, ?_, ?_, h.ob⟩, ?_⟩
  · rw [setCell_block hblk1]
    simp
  · have hm1 := h.m.kept hg1 (by
      by_cases e : vm.ownBlock = none
      · exact .inl e
      · right
        intro e'
        obtain ⟨k, hk⟩ := Option.ne_none_iff_exists'.1 e
        obtain ⟨cur1, hc1⟩ := row_block h.m hk
        obtain ⟨cur2, hc2⟩ := row_block h.s (e' ▸ hk)
        rw [hc1] at hc2
        cases hc2)
    refine ⟨hm1.1, ?_⟩
    rcases hm1.2 with hn | ⟨g', c', cur', rfl, hB', hg', rest⟩
    · exact .inl hn
    · exact .inr ⟨g', c', cur', rfl, hB', (Below.heap_setCell _ _ _ _ (fun e => by rw [e, hblk1] at hg'; cases hg')).trans hg', rest⟩
  · rw [List.replicate_succ']
    exact ⟨ho1.1, .inr ⟨g, c, cur, rfl, hBg, (Below.heap_setCell _ _ _ _ hgob).trans hcur, r1, r2, r3, r4⟩⟩
  · exact ((Below.refl B W).grown hg1 hB fun k hk => (h.s.lt k hk).1).setCell h.ob _
/-- What is made so is a device of the document's. -/
theorem out_ref {w : World} {B ob : Nat} {f : Int} {vm vs : Value} {l : List Sec} (h : Out w B ob f vm vs l l.length) (R : Dv) (hR : DvOk R) (e1 : R.med = l) (e2 : ∀ i, R.since i = []) (e3 : R.lost = false) (e4 : fuseV R = f) :
    ∃ mb mc sb sc rp, #[vm, vs, .bool false, .int .i64 f] = refCells R mb mc sb sc ∧ RefV w mb mc sb sc (fun _ => (0, 0)) R rp ∧ ∀ k, rp k → B ≤ k := by
  subst e1
  have hn := hR.n1
  have hm := h.m
  have hs := h.s
  rcases hm.2 with ⟨_, h0⟩ | ⟨mb, mc, cur, rfl, hBm, hcur, _⟩
  · omega
  rcases hs.2 with ⟨_, h0⟩ | ⟨sb, sc, cur', rfl, hBs, hcur', _⟩
  · omega
  have hS : Strs w mb mc R.med := strs_of_owns rfl hm
  have hI : Sin w sb sc R.med.length (rvOf R (fun _ => (0, 0))) := by
    have : sinCells R.med.length (rvOf R (fun _ => (0, 0))) = List.replicate R.med.length (.slice none 0 0) := by
      apply List.ext_getElem (by simp [sinCells])
      intro i h1 h2
      simp [sinCells, rvOf, e2, Hd.val]
    refine sin_of_owns (B := B) ?_
    rw [this]
    exact hs
  refine ⟨mb, mc, sb, sc, fun k => k = mb ∨ k = sb, ?_, ⟨hR, hS, hI, fun i hi => absurd (e2 i) hi, fun i _ hi => absurd (e2 i) hi, fun i hi => absurd (e2 i) hi, .inl rfl, .inr rfl, fun i hi => absurd (e2 i) hi, fun k hk => ?_⟩, fun k hk => ?_⟩
  · unfold refCells
    rw [e3, e4]
  · rcases hk with rfl | rfl
    · exact hS.lt
    · exact hI.lt
  · rcases hk with rfl | rfl
    · exact hBm
    · exact hBs
end Go.Proofs.Ytmkheikllbjcbaa
