/-
  Cached.
  Crash.
  Spoil, Fresh, New.
  Fresh, New.
  New.
-/
import Derived.Test.YtiffkbmcikiioaaGreatY03
import Derived.Test.YtiffkbmcikiioaaGreatY15
import Derived.Sort.OwnSorted
import Derived.Sort.OwnSortedInts
import Derived.Shelf.Slices.In.SortNone
import Derived.StillTailTactics
import Derived.Laws.BitsAllLaws
import Derived.Laws.MakeOwn

/- Cached. -/
namespace Go.Proofs.YtiffkbmcikiioaaGreat
set_option maxRecDepth 100000
open Go.RowKit Go.Maps

theorem lt_extD : ∀ (l m : List Int), l.Pairwise (· < ·) → m.Pairwise (· < ·) → (∀ x, x ∈ l ↔ x ∈ m) → l = m
  | [], [], _, _, _ => rfl
  | [], y :: m, _, _, h => by have := (h y).2 List.mem_cons_self; cases this
  | x :: l, [], _, _, h => by have := (h x).1 List.mem_cons_self; cases this
  | x :: l, y :: m, hl, hm, h => by
    obtain ⟨h1, h2⟩ := List.pairwise_cons.1 hl
    obtain ⟨h3, h4⟩ := List.pairwise_cons.1 hm
    have e : x = y := by
      rcases List.mem_cons.1 ((h x).1 List.mem_cons_self) with e | e
      · exact e
      · rcases List.mem_cons.1 ((h y).2 List.mem_cons_self) with e' | e'
        · exact e'.symm
        · have := h3 x e; have := h1 y e'; omega
    subst e
    rw [lt_extD l m h2 h4 fun z => ⟨fun hz => ?_, fun hz => ?_⟩]
    · rcases List.mem_cons.1 ((h z).1 (List.mem_cons_of_mem _ hz)) with e | e
      · subst e; have := h1 z hz; omega
      · exact e
    · rcases List.mem_cons.1 ((h z).2 (List.mem_cons_of_mem _ hz)) with e | e
      · subst e; have := h3 z hz; omega
      · exact e
theorem sort_ext (l m : List Int) (hl : l.Nodup) (hm : m.Pairwise (· < ·)) (h : ∀ x, x ∈ l ↔ x ∈ m) : (l.mergeSort fun x y => decide (x ≤ y)) = m := by
  refine lt_extD _ _ ?_ hm fun x => by rw [List.mem_mergeSort]; exact h x
  have h1 := List.pairwise_mergeSort (le := fun x y : Int => decide (x ≤ y)) (fun a b c h1 h2 => by simp at *; omega) (fun a b => by simp; omega) l
  have h2 : (l.mergeSort fun x y => decide (x ≤ y)).Nodup := (List.mergeSort_perm l _).nodup_iff.2 hl
  have h3 := h1.and h2
  exact h3.imp fun ⟨h4, h5⟩ => by simp at h4; omega

/-- The sectors in the cache, rising. -/
def Dv.keys (S : Dv) : List Nat := (List.range S.med.length).filter fun i => !(S.since i).isEmpty
theorem mem_keys {S : Dv} (h : DvOk S) {i : Nat} : i ∈ S.keys ↔ S.since i ≠ [] := by
  simp only [Dv.keys, List.mem_filter, List.mem_range]
  constructor
  · rintro ⟨_, h2⟩ e; simp [e] at h2
  · intro h2
    refine ⟨?_, by simpa using h2⟩
    rcases Nat.lt_or_ge i S.med.length with h3 | h3
    · exact h3
    · exact absurd (h.out i h3) h2
theorem keys_lt (S : Dv) : (S.keys.map Int.ofNat).Pairwise (· < ·) := by
  rw [List.pairwise_map]
  refine (List.Pairwise.filter _ List.pairwise_lt_range).imp ?_
  intro a b h
  show (a : Int) < b
  omega
theorem mem_keysI {S : Dv} (h : DvOk S) (x : Int) : x ∈ S.keys.map Int.ofNat ↔ ∃ i : Nat, x = i ∧ S.since i ≠ [] := by
  rw [List.mem_map]
  constructor
  · rintro ⟨i, h1, rfl⟩; exact ⟨i, rfl, (mem_keys h).1 h1⟩
  · rintro ⟨i, rfl, h1⟩; exact ⟨i, (mem_keys h).2 h1, rfl⟩

/-- The slice v is the call's own, from block B on, and it is the numbers l. -/
def OwnID (w : World) (B : Nat) (v : Value) (l : List Int) : Prop := w.ownsRow B 3 1 v l.length (l.map (Value.int .i64))

def CachedRel (w : World) (S : Dv) (cb m r : Nat) (D : DataW Unit) (v : Value) (wr : World) : Prop :=
  ∃ left cnt, ∃ l : List Int, wr.ranges Tryz.prog 3 hdr cb r m D left cnt ∧ OwnID wr r v l ∧ Below r w wr ∧ l.Nodup ∧ l.length + cnt ≤ m ∧
    (∀ x, x ∈ l ↔ ∃ i : Nat, x = i ∧ S.since i ≠ [] ∧ left (.int .i64 (i : Int)) = false) ∧ r ≤ wr.heap.size
theorem info_int : ∃ i, Tryz.prog.info? 3 = some i ∧ i.zero = some (.int .i64 0) ∧ i.size = 1 ∧ i.bytes = 8 := info_parts (by kernel_rfl)

theorem cached_nil (w : World) :
    Calls Tryz.prog 26 #[.pointer none] w fun e w' => e = .returned (.slice none 0 0) ∧ w = w' := by
  go_enter Tryz.func26, Tryz.ntmps26
  go_wp2
  go_ret
  exact ⟨rfl, rfl⟩

theorem sort_none (w : World) : Calls Tryz.prog 53 #[.slice none 0 0] w fun e w' => e = .returned (.tuple #[]) ∧ w = w' :=
  (Any.slices_Sort_int_none Tryz.lays189 none 0 w).mono fun _ _ ⟨h1, h2⟩ => ⟨h1, h2.symm⟩
theorem OwnID.sort {w : World} {B : Nat} {g cap : Nat} {cur : Array Value} {l m : List Int} (hB : B ≤ g) (hb : w.heap[g]? = some (.cells cur 3 (0, 0))) (h1 : l.length ≤ cap) (h2 : cap ≤ maxLen) (h3 : cur.size = cap * 1) (h4 : cur.toList.take (l.length * 1) = l.map (Value.int .i64))
    (hs : (l.mergeSort fun x y => decide (x ≤ y)) = m) (hl : l.length ≤ 4294967296) (hBw : B ≤ w.heap.size) :
    Calls Tryz.prog 53 #[.slice (some ⟨g, 0, none⟩) l.length cap] w fun e w' => e = .returned (.tuple #[]) ∧ OwnID w' B (.slice (some ⟨g, 0, none⟩) l.length cap) m ∧ Below B w w' := by
  refine (Tryz.slices_Sort_int g 0 cap l w (holds_of_blockI hb (by simpa using h4)) (Array.getElem?_eq_some_iff.1 hb).1 (by omega)).mono ?_
  rintro e w' ⟨rfl, n, os, rfl⟩
  have hml : m.length = l.length := by rw [← hs]; simp
  refine ⟨rfl, ?_, ?_⟩
  · rw [hs]
    have := ownsRow_sortedI (n := n) (os := os) (base := B) (ss := l) (ts := m) hml hB hb h1 h2 h3
    unfold OwnID
    rw [hml]
    exact this
  · exact (Below.refl _ w).grown (grownBy_sortedI _) hBw (fun j hj => by cases hj; exact hB)

set_option maxHeartbeats 1000000 in
theorem cached_any (b : Nat) (S : Dv) (fp : Nat → Prop) (w : World) (h : DevAt w b S fp) (hc : S.cnt ≤ 4294967296) :
    Calls Tryz.prog 26 #[.pointer (some ⟨b, 0, none⟩)] w fun e w' => ∃ v, e = .returned v ∧ OwnID w' w.heap.size v (S.keys.map Int.ofNat) ∧ Below w.heap.size w w' := by
  obtain ⟨mb, cb, m, hd, h⟩ := h
  have c1 := h.c1
  have hmle := h.mle
  have hok := Lib.hid h.ok
  obtain ⟨D, hown, hat0, hhas0⟩ := h.map
  have HD : HeadsD D S hd := ⟨hat0, hhas0⟩
  have hcb := h.map.lt
  have hn2 := h.ok.n2
  have HO := Lib.hid h.ok.out
  clear hat0 hhas0 h
  go_enter Tryz.func26, Tryz.ntmps26
  go_wp2_with (first | (at_range; refine wpList_range_own _ rfl _ 99 rfl 3 98 law Tryz.underlying99 _ cb m D rfl hown ?_; intro w0 hrg0 hg0 hs0))
  go_frame
  have hrel0 : CachedRel w S cb m w.heap.size D (.slice none 0 0) w0 := by
    refine ⟨_, _, [], hrg0, World.ownsRow_nil _ _ _ _, (Below.refl _ w).grown hg0 (Nat.le_refl _) (fun _ e => by cases e), List.nodup_nil, by simpa using hown.size_le, fun x => ⟨(fun h => nomatch h), ?_⟩, hg0.size⟩
    rintro ⟨i, rfl, h1, h2⟩
    have hi : i < S.med.length := by
      rcases Nat.lt_or_ge i S.med.length with h3 | h3
      · exact h3
      · exact absurd (HO.out i h3) h1
    rw [HD.has _ (wfN i (by omega)), head_of h1] at h2
    cases h2
  have hrb : Hid (cb < w.heap.size) := hcb
  clear hrg0 hg0 hs0 hown c1 hcb
  generalize hr : w.heap.size = r at hrel0 hrb ⊢
  have HW := Lib.hid hr
  clear hr
  go_loopw [3] (fun v wr => CachedRel w S cb m r D v wr) (fun _ wr => wr.rangeLeft cb r)
  case atStart => exact hrel0
  case round =>
    obtain ⟨left, cnt, l, hrg, hI, hbel, hnd, hlen, hmem, hrs⟩ := hrel
    go_wp2_with (first
      | (at_next; refine wpList_next_ranges _ rfl _ rfl 3 law hdr (Value.int .i64) Hd.val invK invV cb r m D left cnt rfl hrg ?_ ?_))
    · intro _ hl0
      have hsort := sort_ext l (S.keys.map Int.ofNat) hnd (keys_lt S) fun x => by
        rw [hmem x, mem_keysI hok.out]
        exact ⟨fun ⟨i, h1, h2, _⟩ => ⟨i, h1, h2⟩, fun ⟨i, h1, h2⟩ => ⟨i, h1, h2, hl0 _⟩⟩
      have HSort := Lib.hid hsort
      clear hsort hmem hl0
      rcases hI.2 with ⟨rfl, h0⟩ | ⟨g, cap, cur, rfl, hB, hb, h1, h2, h3, h4⟩
      · have e : l = [] := List.eq_nil_of_length_eq_zero h0
        subst e
        clear h0
        go_wp2_with fail
        refine (sort_none _).mono ?_
        rintro e w1 ⟨rfl, rfl⟩
        go_wp2
        go_ret
        have e : S.keys.map Int.ofNat = [] := by rw [← HSort.out]; simp
        rw [e, HW.out]
        exact ⟨_, rfl, hI, hbel⟩
      · have hS := OwnID.sort hB hb h1 h2 h3 h4 HSort.out (by omega) hrs
        clear h4 h3 hb
        go_wp2_with fail
        refine hS.mono ?_
        rintro e w1 ⟨rfl, h5, h6⟩
        go_wp2
        go_ret
        rw [HW.out]
        exact ⟨_, rfl, h5, hbel.trans h6⟩
    · intro x c kl yd yp w2 cnt2 hkey hlk hv hat hrg2 hlt2 hg2 hs2 hen
      obtain ⟨k, rfl, hsk, rfl, rfl⟩ := next_key HD hkey hv hat
      obtain ⟨i0, hi, hz0, hz1, hz2⟩ := info_int
      have hI2 : OwnID w2 r _ l := hI.kept hg2 (by
        by_cases e : Value.ownBlock u3 = none
        · exact .inl e
        · exact .inr fun e' => row_ne_iter hI hrg e'.symm)
      have hb2 : Below r w w2 := hbel.grown hg2 hrs fun j hj => by cases hj; exact Nat.le_refl _
      have hr2 : r ≤ w2.heap.size := Nat.le_trans hrs hg2.size
      have HM := Lib.hid hmem
      have HL := Lib.hid hlk
      have HI2 := Lib.hid hI2
      have HL0 := Lib.hid hrg.left_eq
      clear hmem hs2 hlk hrg hg2 hI hbel hI2 hv hat hkey
      go_wp2_with (first | (at_builtin; refine wpList_append_own_at _ rfl _ _ 71 rfl r 3 i0 (.int .i64 0) 1 8 Tryz.underlying71 hi hz0 hz1 hz2 rfl (by decide) _ _ _ rfl (World.ownsRow.alloc HI2.out _) ⟨w2.heap.size, 0, none⟩ 1 1 [.int .i64 (k : Int)] rfl rfl (cell_one_new _ _ _) (ints_oneCell .i64 [(k : Int)]) (by unfold maxLen; omega) (by omega) (by simp; omega) ?_; intro v3 w3 hown3 hg3 hnil3 hloc3))
      have hg3' : (w2.alloc (.cells #[.int .i64 (k : Int)] 3)).grownBy w3 (Value.ownBlock u3) := hg3
      have hrg3 := (hrg2.alloc (.cells #[.int .i64 (k : Int)] 3)).kept hg3' (row_ne_low HI2.out hrb.out) (row_ne_iter HI2.out hrg2)
      have hz3 := hg3'.size
      simp only [World.size_alloc] at hz3
      clear hg3 hnil3 hloc3
      go_roundw
      case rel =>
        refine ⟨_, cnt2, l ++ [(k : Int)], hrg3, ?_, ?_, ?_, by simp; omega, ?_, by omega⟩
        · unfold OwnID
          simpa using hown3
        · exact (hb2.alloc hr2 _).grown hg3' (by simp; omega) fun j hj => (HI2.out.lt j hj).1
        · rw [List.nodup_append]
          refine ⟨hnd, by simp, fun a ha c hc => ?_⟩
          rw [List.mem_singleton.1 hc]
          rintro rfl
          obtain ⟨i, h1, _, h3⟩ := (HM.out _).1 ha
          rw [← h1, HL.out] at h3
          cases h3
        · intro x
          rw [List.mem_append, HM.out x, List.mem_singleton]
          constructor
          · rintro (⟨i, rfl, h1, h2⟩ | rfl)
            · exact ⟨i, rfl, h1, by simp [h2]⟩
            · exact ⟨k, rfl, hsk, by simp [sameKey_int]⟩
          · rintro ⟨i, rfl, h1, h2⟩
            by_cases e : i = k
            · right; rw [e]
            · left
              refine ⟨i, rfl, h1, ?_⟩
              have e' : ¬ ((i : Int) = (k : Int)) := by omega
              simpa [sameKey_int, e'] using h2
      case measure => rw [hrg3.left_eq, HL0.out]; exact hlt2
end Go.Proofs.YtiffkbmcikiioaaGreat

/- Crash. -/
namespace Go.Proofs.YtiffkbmcikiioaaGreat
set_option maxRecDepth 100000
open Go.RowKit Go.Maps

/-- The slice value v is the numbers l; they lie in no block of fp. -/
def Ints (fp : Nat → Prop) (w : World) (v : Value) (l : List Int) : Prop :=
  ∃ a c, v = .slice a l.length c ∧ l.length ≤ c ∧ ∀ j, j < l.length → ∃ g o, a = some ⟨g, o, none⟩ ∧ ¬ fp g ∧ g < w.heap.size ∧ w.cell? ⟨g, o + j, none⟩ = some (.int .i64 (l.getD j 0))
theorem Ints.nil (fp : Nat → Prop) (w : World) : Ints fp w (.slice none 0 0) [] := ⟨none, 0, rfl, Nat.le_refl _, fun _ h => absurd h (Nat.not_lt_zero _)⟩
theorem Ints.turn {fp fp' : Nat → Prop} {w w' : World} {v : Value} {l : List Int} (h : Ints fp w v l) (t : Turn fp w w') (hf : ∀ k, fp' k → fp k ∨ w.heap.size ≤ k) : Ints fp' w' v l := by
  obtain ⟨a, c, rfl, h1, h2⟩ := h
  refine ⟨a, c, rfl, h1, fun j hj => ?_⟩
  obtain ⟨g, o, rfl, h3, h4, h5⟩ := h2 j hj
  exact ⟨g, o, rfl, fun e => by rcases hf g e with e | e; exact h3 e; omega, Nat.lt_of_lt_of_le h4 t.size, by rw [World.cell?_of_block (w := w) (t.block g h4 h3)]; exact h5⟩
theorem Ints.below {fp : Nat → Prop} {w w' : World} {v : Value} {l : List Int} (h : Ints fp w v l) (hb : Below w.heap.size w w') : Ints fp w' v l := h.turn (Turn.of_below hb) fun _ h => .inl h
theorem Ints.at_ {fp : Nat → Prop} {w : World} {a : Option Addr} {n c : Nat} {l : List Int} (h : Ints fp w (.slice a n c) l) : l.length = n ∧ ∀ j, j < l.length → ∃ g o, a = some ⟨g, o, none⟩ ∧ ¬ fp g ∧ g < w.heap.size ∧ w.cell? ⟨g, o + j, none⟩ = some (.int .i64 (l.getD j 0)) := by
  obtain ⟨a', c', e, h1, h2⟩ := h
  cases e
  exact ⟨rfl, h2⟩
theorem OwnID.ints {fp : Nat → Prop} {w : World} {B : Nat} {v : Value} {l : List Int} (h : OwnID w B v l) (hf : ∀ k, fp k → k < B) : Ints fp w v l := by
  have hcells := fun g hg => World.ownsRow.cells (g := g) h hg
  rcases h.2 with ⟨rfl, hn⟩ | ⟨g, cap, cur, rfl, hB, hg, hnc, _⟩
  · have : l = [] := List.eq_nil_of_length_eq_zero hn
    subst this
    exact Ints.nil _ _
  · refine ⟨_, cap, rfl, hnc, fun j hj => ⟨g, 0, rfl, fun e => by have := hf g e; omega, (Array.getElem?_eq_some_iff.1 hg).1, ?_⟩⟩
    have := hcells g rfl j (.int .i64 l[j]) (by rw [List.getElem?_map, List.getElem?_eq_getElem hj]; rfl)
    rw [Go.WideShapes.add_plain] at this
    rw [this, List.getD_eq_getElem?_getD, List.getElem?_eq_getElem hj]
    rfl

/-- On the way of a crash: t of the sectors in the cache are settled. -/
def Dv.crashTo (S : Dv) (l : List Int) : Nat → Dv
  | 0 => S
  | t + 1 => if t < l.length then (S.crashTo l t).settle (S.keys.getD t 0) (l.getD t 0) else S.crashTo l t
/-- Behind a crash. -/
def Dv.crash (S : Dv) (l : List Int) : Dv := { (S.crashTo l S.keys.length).bare with fused := false }
theorem crashTo_since (S : Dv) (l : List Int) (t : Nat) : (S.crashTo l t).since = S.since ∧ (S.crashTo l t).med.length = S.med.length ∧ (S.crashTo l t).cnt = S.cnt ∧ (S.crashTo l t).lost = S.lost := by
  induction t with
  | zero => exact ⟨rfl, rfl, rfl, rfl⟩
  | succ t ih =>
    unfold Dv.crashTo
    split
    · unfold Dv.settle
      exact ⟨ih.1, by simp only [List.length_set]; exact ih.2.1, ih.2.2.1, ih.2.2.2⟩
    · exact ih
theorem keys_at {S : Dv} (h : DvOk S) (t : Nat) (ht : t < S.keys.length) : S.keys.getD t 0 < S.med.length ∧ S.since (S.keys.getD t 0) ≠ [] := by
  have hm : S.keys.getD t 0 ∈ S.keys := by
    rw [List.getD_eq_getElem?_getD, List.getElem?_eq_getElem ht]; exact List.getElem_mem ht
  refine ⟨?_, (mem_keys h).1 hm⟩
  simp only [Dv.keys, List.mem_filter, List.mem_range] at hm
  exact hm.1
def CrashRel (w : World) (b mb cb m : Nat) (hd : Nat → Nat × Nat) (S : Dv) (fp : Nat → Prop) (l : List Int) (u : Value) (wr : World) : Prop :=
  ∃ t : Nat, t ≤ S.keys.length ∧ u = .int .i64 (t : Int) ∧ DevIn wr b mb cb m hd (S.crashTo l t) fp ∧ Turn fp w wr

end Go.Proofs.YtiffkbmcikiioaaGreat

/- Spoil, Fresh, New. -/
namespace Go.Proofs.YtiffkbmcikiioaaGreat
set_option maxRecDepth 100000
open Go.RowKit Go.Maps

/-- What is left of a device of which a sector's text was turned where it reads. -/
def Dv.turn (S : Dv) (k : Nat) (x : Sec) : Dv :=
  if S.since k = [] then { S with med := S.med.set k x } else { S with since := fun i => if i = k then (S.since k).set ((S.since k).length - 1) x else S.since i }
/-- A byte of what a sector reads as is made one with another. -/
def spoilt (s : Sec) (p : Nat) (by_ : UInt8) : Sec := s.set p ((s.getD p 0) ^^^ by_)
theorem DevIn.medCell {w : World} {b mb cb m : Nat} {hd : Nat → Nat × Nat} {S : Dv} {fp : Nat → Prop} (h : DevIn w b mb cb m hd S fp) (k : Nat) (hk : k < S.med.length) (p : Nat) (hp : p < 64) (x : UInt8) :
    DevIn (w.setCell ⟨mb, k * 64 + p, none⟩ (.int .u8 (x.toNat : Int))) b mb cb m hd { S with med := S.med.set k (S.med[k].set p x) } fp := by
  have h2 : ∀ j, j ≠ mb → (w.setCell ⟨mb, k * 64 + p, none⟩ (.int .u8 (x.toNat : Int))).heap[j]? = w.heap[j]? := fun j hj => Below.heap_setCell _ _ _ _ hj
  have e : (S.med.set k (S.med[k].set p x)).length = S.med.length := List.length_set
  refine ⟨⟨by rw [e]; exact h.ok.n1, by rw [e]; exact h.ok.n2, fun i hi => h.ok.out i (by rw [← e]; exact hi), h.ok.left, h.ok.cnts⟩, ?_, ?_, h.map.same (h2 _ h.cmb), h.mle, fun i hi => (h.vers i hi).same (h2 _ (h.apart i hi)), h.inj, h.apart, h.fb, h.fm, h.fc, h.fv, fun j hj => by simpa [World.setCell] using h.lt j hj⟩
  · rw [h2 _ h.bm, h.blk]
    unfold dvCells
    rw [e]
  · have := h.med.setCell k hk p hp x
    show Rows _ mb (S.med.set k (S.med[k].set p x)).length _
    rw [e]
    exact this
theorem DevIn.verCell {w : World} {b mb cb m : Nat} {hd : Nat → Nat × Nat} {S : Dv} {fp : Nat → Prop} (h : DevIn w b mb cb m hd S fp) (k : Nat) (hk : S.since k ≠ []) (i : Nat) (hi : i < (S.since k).length) (p : Nat) (hp : p < 64) (x : UInt8) :
    DevIn (w.setCell ⟨(hd k).1, i * 64 + p, none⟩ (.int .u8 (x.toNat : Int))) b mb cb m hd { S with since := fun j => if j = k then (S.since k).set i ((S.since k)[i].set p x) else S.since j } fp := by
  have h2 : ∀ j, j ≠ (hd k).1 → (w.setCell ⟨(hd k).1, i * 64 + p, none⟩ (.int .u8 (x.toNat : Int))).heap[j]? = w.heap[j]? := fun j hj => Below.heap_setCell _ _ _ _ hj
  have hs : ∀ j, (if j = k then (S.since k).set i ((S.since k)[i].set p x) else S.since j) = [] ↔ S.since j = [] := fun j => by
    by_cases e : j = k
    · subst e; simp
    · simp [e]
  have hl : ∀ j, (if j = k then (S.since k).set i ((S.since k)[i].set p x) else S.since j).length = (S.since j).length := fun j => by
    by_cases e : j = k
    · subst e; simp
    · simp [e]
  refine ⟨⟨h.ok.n1, h.ok.n2, fun j hj => (hs j).2 (h.ok.out j hj), h.ok.left, fun j => ?_⟩, (h2 _ (h.bv k hk)).trans h.blk, h.med.same (h2 _ (h.apart k hk).symm), (h.map.same (h2 _ (h.cv k hk))).congr fun j _ => ?_, h.mle, fun j hj => ?_, fun j j' hj hj' => ?_, fun j hj => ?_, h.fb, h.fm, h.fc, fun j hj => ?_, fun j hj => by simpa [World.setCell] using h.lt j hj⟩
  · simp only [hl]; exact h.ok.cnts j
  · unfold hdOf
    simp only [hs, hl]
  · have hj' : S.since j ≠ [] := fun e => hj ((hs j).2 e)
    by_cases e : j = k
    · subst e
      simp only [if_true]
      exact (h.vers j hj').setCell i hi p hp x
    · simp only [if_neg e]
      exact (h.vers j hj').same (h2 _ fun e' => e (h.inj j k hj' hk e'))
  · exact h.inj j j' (fun e => hj ((hs j).2 e)) (fun e => hj' ((hs j').2 e))
  · exact h.apart j (fun e => hj ((hs j).2 e))
  · exact h.fv j (fun e => hj ((hs j).2 e))
theorem DevIn.turned {w : World} {b mb cb m : Nat} {hd : Nat → Nat × Nat} {S : Dv} {fp : Nat → Prop} (h : DevIn w b mb cb m hd S fp) (k : Nat) (hk : k < S.med.length) (p : Nat) (hp : p < 64) (by_ : UInt8) :
    DevIn (w.setCell ⟨lastG S mb hd k, lastI S k * 64 + p, none⟩ (.int .u8 (((S.now k).getD p 0 ^^^ by_).toNat : Int))) b mb cb m hd (S.turn k (spoilt (S.now k) p by_)) fp := by
  obtain ⟨_, hi, hnow⟩ := last_rows h k hk
  unfold lastG lastI Dv.turn spoilt
  unfold lastL lastI at hi hnow
  by_cases e : S.since k = []
  · simp only [e, if_true] at hi hnow ⊢
    have := h.medCell k hk p hp ((S.now k).getD p 0 ^^^ by_)
    rw [hnow] at this
    exact this
  · simp only [e, if_false] at hi hnow ⊢
    have := h.verCell k e _ hi p hp ((S.now k).getD p 0 ^^^ by_)
    rw [hnow] at this
    exact this
theorem lastFp {w : World} {b mb cb m : Nat} {hd : Nat → Nat × Nat} {S : Dv} {fp : Nat → Prop} (h : DevIn w b mb cb m hd S fp) (k : Nat) : fp (lastG S mb hd k) := by
  unfold lastG
  split
  · exact h.fm
  · rename_i e; exact h.fv k e

theorem spoil_nil (k p : Int) (c : Int) (w : World) (hc : (c == 0) = false) :
    Calls Tryz.prog 10 #[.pointer none, .int .i64 k, .int .i64 p, .int .u8 c] w fun e w' => e = .returned (.bool false) ∧ w = w' := by
  go_enter Tryz.func10, Tryz.ntmps10
  go_wp2_with fail
  refine (reach_nil _ _).mono ?_
  rintro e w1 ⟨rfl, rfl⟩
  go_wp2
  go_ret
  exact ⟨rfl, rfl⟩
theorem spoil_zero (d : Value) (k p : Int) (w : World) :
    Calls Tryz.prog 10 #[d, .int .i64 k, .int .i64 p, .int .u8 0] w fun e w' => e = .returned (.bool false) ∧ w = w' := by
  go_enter Tryz.func10, Tryz.ntmps10
  go_wp2
  go_ret
  exact ⟨rfl, rfl⟩
theorem spoil_no (b : Nat) (S : Dv) (fp : Nat → Prop) (k p : Int) (c : Int) (w : World) (h : DevAt w b S fp) (hc : (c == 0) = false) (he : ¬ reachE S k = 0) :
    Calls Tryz.prog 10 #[.pointer (some ⟨b, 0, none⟩), .int .i64 k, .int .i64 p, .int .u8 c] w fun e w' => e = .returned (.bool false) ∧ w = w' := by
  have hR := reach_any b S fp k w h
  clear h
  generalize reachE S k = x at *
  have he1 : (x == 0) = false := by simpa using he
  have he2 : (x != 0) = true := by simpa using he
  go_enter Tryz.func10, Tryz.ntmps10
  go_wp2_with fail
  refine hR.mono ?_
  rintro e w1 ⟨rfl, rfl⟩
  go_wp2
  go_ret
  exact ⟨rfl, rfl⟩
theorem bits_xor (a b : UInt8) : bits BinOp.xor IntKind.u8 (a.toNat : Int) (b.toNat : Int) = ((a ^^^ b).toNat : Int) := by
  rw [u8_xor_nat _ _ (UInt8.toNat_lt a) (UInt8.toNat_lt b), UInt8.toNat_xor]
set_option maxHeartbeats 1000000 in
theorem spoil_ok (b : Nat) (S : Dv) (fp : Nat → Prop) (k : Nat) (p : Int) (c : UInt8) (w : World) (h : DevAt w b S fp) (hl : S.lost = false) (hk : k < S.med.length) (hc : c ≠ 0) :
    Calls Tryz.prog 10 #[.pointer (some ⟨b, 0, none⟩), .int .i64 (k : Int), .int .i64 p, .int .u8 (c.toNat : Int)] w fun e w' => e = .returned (.bool true) ∧ Did fp b (S.turn k (spoilt (S.now k) (p % 64).toNat c)) w w' := by
  have hR := reach_any b S fp k w h
  rw [show reachE S (k : Int) = 0 by unfold reachE; rw [hl]; simp; omega] at hR
  obtain ⟨mb, cb, m, hd, h⟩ := h
  have hA := fun w' (hb : Below w.heap.size w w') => last_any b mb cb m hd S fp k w' (h.below hb) hk
  have hP := fun w' => rest_any p 64 w' ⟨by omega, by omega⟩
  have hp0 := Int.emod_nonneg p (show (64 : Int) ≠ 0 by omega)
  have hp1 := Int.emod_lt_of_pos p (show (0 : Int) < 64 by omega)
  obtain ⟨q, hq⟩ : ∃ q : Nat, p % 64 = q := ⟨(p % 64).toNat, by omega⟩
  rw [hq] at hP hp1
  have HQ := Lib.hid hq
  clear hq hp0
  have hc0 : ((c.toNat : Int) == 0) = false := by
    simp
    intro e; apply hc; exact UInt8.toNat_inj.1 (by simpa using e)
  obtain ⟨hr, hi, hnow⟩ := last_rows h k hk
  have hcell := hr.byte (lastI S k) hi q (by omega)
  rw [hnow] at hcell
  have hfz := hr.shape.frozen (lastI S k * 64 + q)
  have HT := Lib.hid (h.drew.turned k hk q (by omega) c)
  have T := Lib.hid (((Turn.of_below (fp := fp) (Below.refl _ w).drew).setCell (p := ⟨lastG S mb hd k, lastI S k * 64 + q, none⟩) (.inl (lastFp h k)) (.int .u8 (((S.now k).getD q 0 ^^^ c).toNat : Int))))
  clear hr hi hnow h
  generalize lastG S mb hd k = g at *
  generalize lastI S k * 64 = o at *
  generalize hy : (S.now k).getD q 0 = y at *
  clear hy
  go_enter Tryz.func10, Tryz.ntmps10
  go_wp2_with fail
  refine hR.mono ?_
  rintro e w1 ⟨rfl, rfl⟩
  go_wp2_with fail
  have hcellD : w.drew.cell? ⟨g, o + q, none⟩ = some (.int .u8 (y.toNat : Int)) := hcell
  have hfzD : w.drew.frozen? ⟨g, o + q, none⟩ = false := hfz
  refine wp_region_still_tail 12 (by kernel_rfl) (by kernel_rfl) ?_
  simp only [List.take_succ_cons, List.take_zero, List.drop_succ_cons, List.drop_zero]
  still_step
  still_step
  still_call ((hA _ (Below.refl _ w).drew).mono fun _ _ ⟨he, hw⟩ => ⟨he, hw.symm⟩)
  still_step
  still_call ((hP _).mono fun _ _ ⟨he, hw⟩ => ⟨he, hw.symm⟩)
  repeat still_step
  refine wpStill_nil ?_
  clear hA hP
  have hv := bits_xor y c
  rw [hv]
  clear hv
  generalize hz : (y ^^^ c) = z at *
  clear hz
  go_wp2
  go_ret
  rw [HQ.out, Int.toNat_natCast]
  exact ⟨rfl, Did.of HT.out T.out⟩
end Go.Proofs.YtiffkbmcikiioaaGreat

/- Fresh, New. -/
namespace Go.Proofs.YtiffkbmcikiioaaGreat
set_option maxRecDepth 100000
open Go.RowKit Go.Maps

/-- A sector full of a byte. -/
def fullS (c : UInt8) : Sec := List.replicate 64 c
theorem fullS_len (c : UInt8) : (fullS c).length = 64 := by simp [fullS]
/-- A new device in the place of another one. -/
def Dv.fresh (S : Dv) (c : UInt8) : Dv := { S with med := List.replicate S.med.length (fullS c), since := fun _ => [], lost := false, fused := false, cnt := 0 }
def freshL (S : Dv) (x : Sec) (t : Nat) : List Sec := List.replicate t x ++ S.med.drop t
theorem freshL_len (S : Dv) (x : Sec) (t : Nat) (h : t ≤ S.med.length) : (freshL S x t).length = S.med.length := by simp [freshL]; omega
theorem freshL_zero (S : Dv) (x : Sec) : freshL S x 0 = S.med := by simp [freshL]
theorem freshL_step (S : Dv) (x : Sec) (t : Nat) (h : t < S.med.length) : (freshL S x t).set t x = freshL S x (t + 1) := by
  unfold freshL
  rw [List.set_append_right _ _ (by simp)]
  rw [List.drop_eq_getElem_cons h, List.length_replicate, Nat.sub_self, List.set_cons_zero, List.replicate_succ', List.append_assoc]
  rfl
theorem freshL_end (S : Dv) (c : UInt8) : ({ ({ S with med := freshL S (fullS c) S.med.length } : Dv).bare with lost := false, fused := false } : Dv) = S.fresh c := by
  unfold Dv.bare Dv.fresh freshL
  simp
def FillRel (w : World) (vb : Nat) (c : Int) (u : Value) (wr : World) : Prop :=
  ∃ t : Nat, t ≤ 64 ∧ u = .int .i64 (t : Int) ∧ Below w.heap.size w wr ∧ wr.there vb 0 64 ∧ (∀ j, j < t → wr.cell? ⟨vb, j, none⟩ = some (.int .u8 c)) ∧ w.heap.size < wr.heap.size
def FreshRel (w : World) (b mb cb m vb : Nat) (hd : Nat → Nat × Nat) (S : Dv) (fp : Nat → Prop) (x : Sec) (u : Value) (wr : World) : Prop :=
  ∃ t : Nat, t ≤ S.med.length ∧ u = .int .i64 (t : Int) ∧ DevIn wr b mb cb m hd { S with med := freshL S x t } fp ∧ Turn fp w wr ∧ wr.rangeAt vb 0 (secCells x)
theorem fresh_nil (c : Value) (w : World) :
    Calls Tryz.prog 17 #[.pointer none, c] w fun e w' => e = .returned (.tuple #[]) ∧ w = w' := by
  go_enter Tryz.func17, Tryz.ntmps17
  go_wp2
  exact bodyPost_ret (results_none rfl _ _ _) rfl ⟨rfl, rfl⟩

set_option maxRecDepth 100000 in
set_option maxHeartbeats 1000000 in
theorem fresh_any (b : Nat) (S : Dv) (fp : Nat → Prop) (c : UInt8) (w : World) (h : DevAt w b S fp) :
    Calls Tryz.prog 17 #[.pointer (some ⟨b, 0, none⟩), .int .u8 (c.toNat : Int)] w fun e w' => e = .returned (.tuple #[]) ∧ Did fp b (S.fresh c) w w' := by
  obtain ⟨mb, cb, m, hd, h⟩ := h
  have H := Lib.hid h
  have hn2 := h.ok.n2
  clear h
  go_enter Tryz.func17, Tryz.ntmps17
  go_wp2_with fail
  have hrel0 : FillRel w w.heap.size (c.toNat : Int) (.int .i64 0) (w.alloc (.cells (Array.replicate 64 (.int .u8 0)) 103)) :=
    ⟨0, Nat.zero_le _, rfl, (Below.refl _ w).alloc (Nat.le_refl _) _, there_new _ _ _ _ (by simp), fun j hj => absurd hj (Nat.not_lt_zero _), by simp⟩
  go_loopw [9] (fun u wr => FillRel w w.heap.size (c.toNat : Int) u wr) (fun u _ => 64 - (intOf u).toNat)
  case atStart => exact hrel0
  case round =>
    obtain ⟨t, ht, rfl, hb, hth, hce, hsz⟩ := hrel
    clear hrel0
    by_cases hlt : t < 64
    · obtain ⟨u0, hu0⟩ := Option.isSome_iff_exists.1 (hth t hlt).1
      have hf0 := (hth t hlt).2
      rw [Nat.zero_add] at hu0 hf0
      have HTH := Lib.hid hth
      have HCE := Lib.hid hce
      clear hth hce
      go_wp2
      go_roundw
      case rel =>
        refine ⟨t + 1, by omega, by go_num, hb.setCell (Nat.le_refl _) _, fun j hj => ⟨?_, ?_⟩, fun j hj => ?_, by simpa [World.setCell] using hsz⟩
        · by_cases e : t = j
          · subst e
            rw [Nat.zero_add, World.cell?_setCell_same _ _ _ hu0]; rfl
          · rw [World.cell?_setCell_other _ _ _ _ (by intro h; injection h with _ h _; omega)]
            exact (HTH.out j hj).1
        · rw [World.frozen?_setCell]; exact (HTH.out j hj).2
        · by_cases e : t = j
          · subst e
            rw [World.cell?_setCell_same _ _ _ hu0]
          · rw [World.cell?_setCell_other _ _ _ _ (by intro h; injection h with _ h _; omega)]
            exact HCE.out j (by omega)
      case measure => simp [intOf]; omega
    · obtain rfl : t = 64 := by omega
      have r1 : wr.rangeAt w.heap.size 0 (secCells (fullS c)) := fun j v hv => by
        have hj : j < 64 := by
          have := (List.getElem?_eq_some_iff.1 hv).1
          rw [secCells_len, fullS_len] at this
          exact this
        rw [Nat.zero_add, hce j hj, ← hv, secCells, List.getElem?_map, fullS, List.getElem?_replicate, if_pos hj]
        rfl
      have hd1 := H.out.below hb
      have hvb : ¬ fp w.heap.size := fun e => Nat.lt_irrefl _ (H.out.lt _ e)
      have T1 : Turn fp w wr := Turn.of_below hb
      have HT1 := Lib.hid T1
      have c0 := hd1.c0
      have hrel1 : FreshRel w b mb cb m w.heap.size hd S fp (fullS c) (.int .i64 0) wr := ⟨0, Nat.zero_le _, rfl, by rw [freshL_zero]; exact hd1, T1, r1⟩
      clear hb hth hce hsz T1 hd1 r1
      have HVB := Lib.hid hvb
      clear hvb
      generalize hN : S.med.length = N at *
      have HN := Lib.hid hN
      clear hN ht hlt
      generalize w.heap.size = vb at *
      go_wp2_with fail
      clear c0
      go_loopw [21] (fun u wr => FreshRel w b mb cb m vb hd S fp (fullS c) u wr) (fun u _ => N - (intOf u).toNat)
      case atStart => exact hrel1
      case round =>
        obtain ⟨t, ht, rfl, hdev, hturn, rv⟩ := hrel
        clear hrel1
        by_cases hlt : t < N
        · have hlen : (freshL S (fullS c) t).length = N := by rw [freshL_len S _ t ht]; exact HN.out
          have hk : t < ({ S with med := freshL S (fullS c) t } : Dv).med.length := by show t < (freshL S (fullS c) t).length; rw [hlen]; exact hlt
          have tm := hdev.med.there t hk
          have hD := hdev.drew.medSet t hk (fullS c) (fullS_len c)
          have c0 := hdev.c0
          have cD := hD.c0
          have rD := World.rangeAt_setCells_apart (w := wr.drew) rv mb (t * 64) (secCells (fullS c)) (.inl fun e => HVB.out (e ▸ hdev.fm))
          have tD := World.there_setCells (w := wr.drew) tm mb (t * 64) (secCells (fullS c))
          have T := Lib.hid ((hturn.trans (Turn.of_below (fp := fp) (Below.refl _ wr).drew) fun _ h => .inl h).setCells hdev.fm (t * 64) (secCells (fullS c)))
          simp only at hD
          rw [freshL_step S _ t (by rw [HN.out]; exact hlt)] at hD
          have HDv := Lib.hid hD
          have h1c := secCells_one (fullS c)
          have hl64 : (secCells (fullS c)).length = 64 := by rw [secCells_len, fullS_len]
          have hu := Tryz.underlying103
          have hi : (Tryz.prog.info? 103).map (·.size) = some (secCells (fullS c)).length := by
            obtain ⟨i, z, hi, _, hs, _⟩ := info_sec
            rw [hi, hl64, ← hs]; rfl
          simp only [List.length_set] at cD
          simp only at c0
          rw [hlen] at c0 cD
          have HTL : Hid (t + 1 ≤ S.med.length) := by show t + 1 ≤ _; rw [HN.out]; omega
          clear hD hdev hturn hlen hk ht
          unfold FreshRel
          generalize secCells (fullS c) = cs at *
          have q4 : (t : Int) < (N : Int) := by omega
          go_wp2_with fail
          go_region_held3 (fun w' => w'.cell? ⟨b, 0, none⟩ = some (.slice (some ⟨mb, 0, none⟩) N N) ∧ w'.rangeAt vb 0 cs ∧ w'.there mb (t * 64) 64) (first | exact ⟨c0, rv, tm⟩ | exact ⟨cD, rD, tD⟩) (first | fail)
          all_goals
            go_wp2
            go_roundw
            case rel => exact ⟨t + 1, HTL.out, by go_num, HDv.out, T.out, rD⟩
            case measure => simp [intOf]; omega
        · have e : t = N := by rw [HN.out] at ht; omega
          subst e
          have c1 := hdev.c1
          have HD := Lib.hid hdev
          clear hdev rv hlt ht
          go_wp2_with (obtain ⟨w', hr, h3, h4⟩ := wipe_any HD.out _; have c2 := h3.c2; have f2 := h3.fr 2; have c3 := h3.c3; have f3 := h3.fr 3; have H3 := Lib.hid h3; clear h3; refine wpList_clear _ rfl _ _ rfl _ rfl _ hr ?_)
          go_end0
          refine ⟨rfl, Did.of (mb := mb) (cb := cb) (m := 0) (hd := hd) (S := S.fresh c) ?_ (((hturn.trans h4 fun _ h => .inl h).setCell (.inl H3.out.fb) _).setCell (.inl H3.out.fb) _)⟩
          have := (H3.out.set2 false).set3 false
          rw [← freshL_end, HN.out]
          exact this
end Go.Proofs.YtiffkbmcikiioaaGreat

/- New. -/
namespace Go.Proofs.YtiffkbmcikiioaaGreat
set_option maxRecDepth 100000
open Go.RowKit Go.Maps

/-- A new device. -/
def newDv (n : Nat) : Dv := { med := List.replicate n (fullS 0), since := fun _ => [], lost := false, fused := false, left := 0, cnt := 0 }
/-- The world behind make([]sector, n). -/
def secsW (w : World) (n : Nat) : World := w.alloc (.cells (madeCells (Array.replicate 64 (.int .u8 0)) (n * 64)) 103)
theorem make_secs (w : World) (n : Nat) (hn : n ≤ 4096) : (Instr.makeSlice 98 (.int .i64 (n : Int)) (.int .i64 (n : Int))).run Tryz.prog w = .ok (.slice (some ⟨w.heap.size, 0, none⟩) n n) (secsW w n) := by
  obtain ⟨i, h1, h2, h3, h4⟩ := info_parts (P := Tryz.prog) (e := 103) (z := .agg (Array.replicate 64 (.int .u8 0))) (size := 64) (bytes := 64) (by kernel_rfl)
  have := run_make (P := Tryz.prog) w 98 103 i _ Tryz.underlying98 h1 h2 .i64 .i64 n n (by omega) (by omega) (by rw [h4]; omega) (by omega)
  rw [this, h3]
  rfl
theorem full_at (c : UInt8) (j : Nat) (hj : j < 64) : (secCells (fullS c))[j]? = some (.int .u8 (c.toNat : Int)) := by
  rw [secCells, List.getElem?_map, fullS, List.getElem?_replicate, if_pos hj]
  rfl
theorem secsW_rows (w : World) (n : Nat) (hn : n ≤ 4096) : Rows (secsW w n) w.heap.size n (List.replicate n (fullS 0)) := by
  have hh : (secsW w n).heap[w.heap.size]? = some (.cells (madeCells (Array.replicate 64 (.int .u8 0)) (n * 64)) 103 (0, 0)) := heap_alloc_new w _
  refine ⟨⟨_, hh, size_madeCells _ _⟩, fun i hi j hj => ?_, by simp, by unfold maxLen; omega, fun s hs => by rw [(List.mem_replicate.1 hs).2]; exact fullS_len 0⟩
  rw [List.length_replicate] at hi
  rw [List.getElem_replicate]
  unfold World.cell?
  simp only [hh]
  have h1 : i * 64 + j < n * 64 := by omega
  have h2 : (i * 64 + j) % 64 = j := by omega
  rw [full_at 0 j hj]
  simp [madeCells, h1, h2, hj]
theorem secsW_below (w : World) (n : Nat) : Below w.heap.size w (secsW w n) := (Below.refl _ w).alloc (Nat.le_refl _) _

theorem new_no (k : Int) (w : World) (h : k < 1 ∨ 4096 < k) :
    Calls Tryz.prog 57 #[.int .i64 k] w fun e w' => e = .returned (.tuple #[.pointer none, .int .i64 1]) ∧ w = w' := by
  by_cases h1 : k < 1
  · go_enter Tryz.func57, Tryz.ntmps57
    go_wp2
    go_ret2
    exact ⟨rfl, rfl⟩
  · have h2 : 4096 < k := by omega
    have h3 : decide (k < 1) = false := by simpa using h1
    go_enter Tryz.func57, Tryz.ntmps57
    go_wp2
    go_ret2
    exact ⟨rfl, rfl⟩
/-- The world behind New. -/
def newW (w : World) (n : Nat) : World := ((secsW w n).alloc (.map #[] 0)).alloc (.cells (dvCells (newDv n) w.heap.size (w.heap.size + 1)) 101)
theorem newW_dev (w : World) (n : Nat) (h1 : 1 ≤ n) (h2 : n ≤ 4096) : DevAt (newW w n) (w.heap.size + 2) (newDv n) (fun k => w.heap.size ≤ k ∧ k < w.heap.size + 3) ∧ Below w.heap.size w (newW w n) := by
  have z1 : (secsW w n).heap.size = w.heap.size + 1 := by simp [secsW]
  have z2 : ((secsW w n).alloc (.map #[] 0)).heap.size = w.heap.size + 2 := by simp [z1]
  have z3 : (newW w n).heap.size = w.heap.size + 3 := by unfold newW; simp [z1]
  have hbel : Below w.heap.size w (newW w n) := ((secsW_below w n).alloc (by omega) _).alloc (by omega) _
  have hl : (newDv n).med.length = n := by simp [newDv]
  have a1 : ∀ k, k < w.heap.size + 1 → (newW w n).heap[k]? = (secsW w n).heap[k]? := fun k hk => by
    unfold newW
    rw [Below.heap_alloc _ _ _ (by omega), Below.heap_alloc _ _ _ (by omega)]
  refine ⟨⟨w.heap.size, w.heap.size + 1, 0, fun _ => (0, 0), ?_⟩, hbel⟩
  refine ⟨⟨by rw [hl]; exact h1, by rw [hl]; exact h2, fun _ _ => rfl, by show 0 < _; omega, fun _ => Nat.le_refl _⟩, ?_, ?_, ?_, Nat.le_refl _, fun i hi => absurd rfl hi, fun i _ hi => absurd rfl hi, fun i hi => absurd rfl hi, ⟨by omega, by omega⟩, ⟨by omega, by omega⟩, ⟨by omega, by omega⟩, fun i hi => absurd rfl hi, fun k hk => by rw [z3]; omega⟩
  · have := heap_alloc_new ((secsW w n).alloc (.map #[] 0)) (.cells (dvCells (newDv n) w.heap.size (w.heap.size + 1)) 101)
    rw [z2] at this
    exact this
  · rw [hl]
    exact (secsW_rows w n h2).same (a1 _ (by omega))
  · have h3 := CMap.made (secsW w n)
    rw [z1] at h3
    refine (h3.same (w' := newW w n) (Below.heap_alloc _ _ _ (by omega))).congr fun k _ => ?_
    unfold hdOf
    rw [if_pos (.inr rfl)]
theorem new_ok (n : Nat) (w : World) (h1 : 1 ≤ n) (h2 : n ≤ 4096) :
    Calls Tryz.prog 57 #[.int .i64 (n : Int)] w fun e w' => e = .returned (.tuple #[.pointer (some ⟨w.heap.size + 2, 0, none⟩), .int .i64 0]) ∧ DevAt w' (w.heap.size + 2) (newDv n) (fun k => w.heap.size ≤ k ∧ k < w.heap.size + 3) ∧ Below w.heap.size w w' := by
  have hm := make_secs w n h2
  have hmm := @run_makeMap Tryz.prog
  have h3 : decide ((n : Int) < 1) = false := by simp; omega
  have h4 : decide ((4096 : Int) < (n : Int)) = false := by simp; omega
  have HW := Lib.hid (newW_dev w n h1 h2)
  have z1 : (secsW w n).heap.size = w.heap.size + 1 := by simp [secsW]
  have hl : (newDv n).med.length = n := by simp [newDv]
  have HL := Lib.hid hl
  clear hl
  have e3 : Hid (newW w n = ((secsW w n).alloc (.map #[] 0)).alloc (.cells (dvCells (newDv n) w.heap.size (w.heap.size + 1)) 101)) := rfl
  have e4 : Hid (dvCells (newDv n) w.heap.size (w.heap.size + 1) = #[.slice (some ⟨w.heap.size, 0, none⟩) n n, .map (some (w.heap.size + 1)), .bool false, .bool false, .int .i64 0]) := by
    show dvCells _ _ _ = _
    unfold dvCells
    rw [HL.out]
    rfl
  go_enter Tryz.func57, Tryz.ntmps57
  go_wp2
  go_ret2
  rw [← e4.out, ← e3.out]
  exact ⟨rfl, HW.out⟩
end Go.Proofs.YtiffkbmcikiioaaGreat
