/-
  Cached.
-/
import Derived.Test.YtmkheikllbjcbaaDh
import Derived.Test.YtmkheikllbjcbaaShelf
import Derived.Sort.OwnSorted
import Derived.Sort.OwnSortedInts
import Derived.Shelf.Slices.In.SortNone
namespace Go.Proofs.Ytmkheikllbjcbaa
open Go.RowKit Go.Maps

theorem lt_ext : ∀ (l m : List Int), l.Pairwise (· < ·) → m.Pairwise (· < ·) → (∀ x, x ∈ l ↔ x ∈ m) → l = m
  | [], [], _, _, _ => rfl
  | [], y :: m, _, _, h => by have := (h y).2 List.mem_cons_self; cases this
  | x :: l, [], _, _, h => by have := (h x).1 List.mem_cons_self; cases this
  | x :: l, y :: m, hl, hm, h => by
    obtain ⟨h1, h2⟩ := List.pairwise_cons.1 hl
    obtain ⟨h3, h4⟩ := List.pairwise_cons.1 hm
    have e : x = y := by
      rcases List.mem_cons.1 ((h x).1 List.mem_cons_self) with e | e
      · exact e
      · rcases List.mem_cons.1 ((h y).2 List.mem_cons_self) with e' | e'
        · exact e'.symm
        · have := h3 x e; have := h1 y e'; omega
    subst e
    rw [lt_ext l m h2 h4 fun z => ⟨fun hz => ?_, fun hz => ?_⟩]
    · rcases List.mem_cons.1 ((h z).1 (List.mem_cons_of_mem _ hz)) with e | e
      · subst e; have := h1 z hz; omega
      · exact e
    · rcases List.mem_cons.1 ((h z).2 (List.mem_cons_of_mem _ hz)) with e | e
      · subst e; have := h3 z hz; omega
      · exact e
theorem sort_ext (l m : List Int) (hl : l.Nodup) (hm : m.Pairwise (· < ·)) (h : ∀ x, x ∈ l ↔ x ∈ m) : (l.mergeSort fun x y => decide (x ≤ y)) = m := by
  refine lt_ext _ _ ?_ hm fun x => by rw [List.mem_mergeSort]; exact h x
  have h1 := List.pairwise_mergeSort (le := fun x y : Int => decide (x ≤ y)) (fun a b c h1 h2 => by simp at *; omega) (fun a b => by simp; omega) l
  have h2 : (l.mergeSort fun x y => decide (x ≤ y)).Nodup := (List.mergeSort_perm l _).nodup_iff.2 hl
  have h3 := h1.and h2
  exact h3.imp fun ⟨h4, h5⟩ => by simp at h4; omega

/-- The sectors in the cache, rising. -/
def Dv.keys (S : Dv) : List Nat := (List.range S.med.length).filter fun i => !(S.since i).isEmpty
theorem mem_keys {S : Dv} (h : DvOk S) {i : Nat} : i ∈ S.keys ↔ S.since i ≠ [] := by
  simp only [Dv.keys, List.mem_filter, List.mem_range]
  constructor
  · rintro ⟨_, h2⟩ e; simp [e] at h2
  · intro h2
    refine ⟨?_, by simpa using h2⟩
    rcases Nat.lt_or_ge i S.med.length with h3 | h3
    · exact h3
    · exact absurd (h.out i h3) h2
theorem keys_lt (S : Dv) : (S.keys.map Int.ofNat).Pairwise (· < ·) := by
  rw [List.pairwise_map]
  refine (List.Pairwise.filter _ List.pairwise_lt_range).imp ?_
  intro a b h
  show (a : Int) < b
  omega
theorem mem_keysI {S : Dv} (h : DvOk S) (x : Int) : x ∈ S.keys.map Int.ofNat ↔ ∃ i : Nat, x = i ∧ S.since i ≠ [] := by
  rw [List.mem_map]
  constructor
  · rintro ⟨i, h1, rfl⟩; exact ⟨i, rfl, (mem_keys h).1 h1⟩
  · rintro ⟨i, rfl, h1⟩; exact ⟨i, (mem_keys h).2 h1, rfl⟩

/-- The slice v is the call's own, from block B on, and it is the numbers l. -/
def OwnI (w : World) (B : Nat) (v : Value) (l : List Int) : Prop := w.ownsRow B 3 1 v l.length (l.map (Value.int .i64))

def CachedRel (w : World) (S : Dv) (cb m r : Nat) (D : DataW Unit) (v : Value) (wr : World) : Prop :=
  ∃ left cnt, ∃ l : List Int, wr.ranges Try.prog 3 hdr cb r m D left cnt ∧ OwnI wr r v l ∧ Below r w wr ∧ l.Nodup ∧ l.length + cnt ≤ m ∧
    (∀ x, x ∈ l ↔ ∃ i : Nat, x = i ∧ S.since i ≠ [] ∧ left (.int .i64 (i : Int)) = false) ∧ r ≤ wr.heap.size
theorem info_int : ∃ i, Try.prog.info? 3 = some i ∧ i.zero = some (.int .i64 0) ∧ i.size = 1 ∧ i.bytes = 8 := info_parts (by kernel_rfl)

theorem cached_nil (w : World) :
    Calls Try.prog 18 #[.pointer none] w fun e w' => e = .returned (.slice none 0 0) ∧ w = w' := by
  go_enter Try.func18, Try.ntmps18
  go_wp2
  go_ret
  exact ⟨rfl, rfl⟩

theorem sort_none (w : World) : Calls Try.prog 33 #[.slice none 0 0] w fun e w' => e = .returned (.tuple #[]) ∧ w = w' :=
  (Any.slices_Sort_int_none Try.lays189 none 0 w).mono fun _ _ ⟨h1, h2⟩ => ⟨h1, h2.symm⟩
theorem OwnI.sort {w : World} {B : Nat} {g cap : Nat} {cur : Array Value} {l m : List Int} (hB : B ≤ g) (hb : w.heap[g]? = some (.cells cur 3 (0, 0))) (h1 : l.length ≤ cap) (h2 : cap ≤ maxLen) (h3 : cur.size = cap * 1) (h4 : cur.toList.take (l.length * 1) = l.map (Value.int .i64))
    (hs : (l.mergeSort fun x y => decide (x ≤ y)) = m) (hl : l.length ≤ 4294967296) (hBw : B ≤ w.heap.size) :
    Calls Try.prog 33 #[.slice (some ⟨g, 0, none⟩) l.length cap] w fun e w' => e = .returned (.tuple #[]) ∧ OwnI w' B (.slice (some ⟨g, 0, none⟩) l.length cap) m ∧ Below B w w' := by
  refine (Try.slices_Sort_int g 0 cap l w (holds_of_blockI hb (by simpa using h4)) (Array.getElem?_eq_some_iff.1 hb).1 (by omega)).mono ?_
  rintro e w' ⟨rfl, n, os, rfl⟩
  have hml : m.length = l.length := by rw [← hs]; simp
  refine ⟨rfl, ?_, ?_⟩
  · rw [hs]
    have := ownsRow_sortedI (n := n) (os := os) (base := B) (ss := l) (ts := m) hml hB hb h1 h2 h3
    unfold OwnI
    rw [hml]
    exact this
  · exact (Below.refl _ w).grown (grownBy_sortedI _) hBw (fun j hj => by cases hj; exact hB)

set_option maxHeartbeats 1000000 in
theorem cached_any (b : Nat) (S : Dv) (fp : Nat → Prop) (w : World) (h : DevAt w b S fp) (hc : S.cnt ≤ 4294967296) :
    Calls Try.prog 18 #[.pointer (some ⟨b, 0, none⟩)] w fun e w' => ∃ v, e = .returned v ∧ OwnI w' w.heap.size v (S.keys.map Int.ofNat) ∧ Below w.heap.size w w' := by
  obtain ⟨mb, cb, m, hd, h⟩ := h
  have c1 := h.c1
  have hmle := h.mle
  have hok := Lib.hid h.ok
  obtain ⟨D, hown, hat0, hhas0⟩ := h.map
  have HD : Heads D S hd := ⟨hat0, hhas0⟩
  have hcb := h.map.lt
  have hn2 := h.ok.n2
  have HO := Lib.hid h.ok.out
  clear hat0 hhas0 h
  go_enter Try.func18, Try.ntmps18
  go_wp2_with (first | (at_range; refine wpList_range_own _ rfl _ 59 rfl 3 58 law Try.underlying59 _ cb m D rfl hown ?_; intro w0 hrg0 hg0 hs0))
  go_frame
  have hrel0 : CachedRel w S cb m w.heap.size D (.slice none 0 0) w0 := by
    refine ⟨_, _, [], hrg0, World.ownsRow_nil _ _ _ _, (Below.refl _ w).grown hg0 (Nat.le_refl _) (fun _ e => by cases e), List.nodup_nil, by simpa using hown.size_le, fun x => ⟨(fun h => nomatch h), ?_⟩, hg0.size⟩
    rintro ⟨i, rfl, h1, h2⟩
    have hi : i < S.med.length := by
      rcases Nat.lt_or_ge i S.med.length with h3 | h3
      · exact h3
      · exact absurd (HO.out i h3) h1
    rw [HD.has _ (wfN i (by omega)), head_of h1] at h2
    cases h2
  have hrb : Hid (cb < w.heap.size) := hcb
  clear hrg0 hg0 hs0 hown c1 hcb
  generalize hr : w.heap.size = r at hrel0 hrb ⊢
  have HW := Lib.hid hr
  clear hr
  go_loopw [3] (fun v wr => CachedRel w S cb m r D v wr) (fun _ wr => wr.rangeLeft cb r)
  case atStart => exact hrel0
  case round =>
    obtain ⟨left, cnt, l, hrg, hI, hbel, hnd, hlen, hmem, hrs⟩ := hrel
    go_wp2_with (first
      | (at_next; refine wpList_next_ranges _ rfl _ rfl 3 law hdr (Value.int .i64) Hd.val invK invV cb r m D left cnt rfl hrg ?_ ?_))
    · intro _ hl0
      have hsort := sort_ext l (S.keys.map Int.ofNat) hnd (keys_lt S) fun x => by
        rw [hmem x, mem_keysI hok.out]
        exact ⟨fun ⟨i, h1, h2, _⟩ => ⟨i, h1, h2⟩, fun ⟨i, h1, h2⟩ => ⟨i, h1, h2, hl0 _⟩⟩
      have HSort := Lib.hid hsort
      clear hsort hmem hl0
      rcases hI.2 with ⟨rfl, h0⟩ | ⟨g, cap, cur, rfl, hB, hb, h1, h2, h3, h4⟩
      · have e : l = [] := List.eq_nil_of_length_eq_zero h0
        subst e
        clear h0
        go_wp2_with fail
        refine (sort_none _).mono ?_
        rintro e w1 ⟨rfl, rfl⟩
        go_wp2
        go_ret
        have e : S.keys.map Int.ofNat = [] := by rw [← HSort.out]; simp
        rw [e, HW.out]
        exact ⟨_, rfl, hI, hbel⟩
      · have hS := OwnI.sort hB hb h1 h2 h3 h4 HSort.out (by omega) hrs
        clear h4 h3 hb
        go_wp2_with fail
        refine hS.mono ?_
        rintro e w1 ⟨rfl, h5, h6⟩
        go_wp2
        go_ret
        rw [HW.out]
        exact ⟨_, rfl, h5, hbel.trans h6⟩
    · intro x c kl yd yp w2 cnt2 hkey hlk hv hat hrg2 hlt2 hg2 hs2 hen
      obtain ⟨k, rfl, hsk, rfl, rfl⟩ := next_key HD hkey hv hat
      obtain ⟨i0, hi, hz0, hz1, hz2⟩ := info_int
      have hI2 : OwnI w2 r _ l := hI.kept hg2 (by
        by_cases e : Value.ownBlock u3 = none
        · exact .inl e
        · exact .inr fun e' => row_ne_iter hI hrg e'.symm)
      have hb2 : Below r w w2 := hbel.grown hg2 hrs fun j hj => by cases hj; exact Nat.le_refl _
      have hr2 : r ≤ w2.heap.size := Nat.le_trans hrs hg2.size
      have HM := Lib.hid hmem
      have HL := Lib.hid hlk
      have HI2 := Lib.hid hI2
      have HL0 := Lib.hid hrg.left_eq
      clear hmem hs2 hlk hrg hg2 hI hbel hI2 hv hat hkey
      go_wp2_with (first | (at_builtin; refine wpList_append_own_at _ rfl _ _ 23 rfl r 3 i0 (.int .i64 0) 1 8 Try.underlying23 hi hz0 hz1 hz2 rfl (by decide) _ _ _ rfl (World.ownsRow.alloc HI2.out _) ⟨w2.heap.size, 0, none⟩ 1 1 [.int .i64 (k : Int)] rfl rfl (cell_one_new _ _ _) (ints_oneCell .i64 [(k : Int)]) (by unfold maxLen; omega) (by omega) (by simp; omega) ?_; intro v3 w3 hown3 hg3 hnil3 hloc3))
      have hg3' : (w2.alloc (.cells #[.int .i64 (k : Int)] 3)).grownBy w3 (Value.ownBlock u3) := hg3
      have hrg3 := (hrg2.alloc (.cells #[.int .i64 (k : Int)] 3)).kept hg3' (row_ne_low HI2.out hrb.out) (row_ne_iter HI2.out hrg2)
      have hz3 := hg3'.size
      simp only [World.size_alloc] at hz3
      clear hg3 hnil3 hloc3
      go_roundw
      case rel =>
        refine ⟨_, cnt2, l ++ [(k : Int)], hrg3, ?_, ?_, ?_, by simp; omega, ?_, by omega⟩
        · unfold OwnI
          simpa using hown3
        · exact (hb2.alloc hr2 _).grown hg3' (by simp; omega) fun j hj => (HI2.out.lt j hj).1
        · rw [List.nodup_append]
          refine ⟨hnd, by simp, fun a ha c hc => ?_⟩
          rw [List.mem_singleton.1 hc]
          rintro rfl
          obtain ⟨i, h1, _, h3⟩ := (HM.out _).1 ha
          rw [← h1, HL.out] at h3
          cases h3
        · intro x
          rw [List.mem_append, HM.out x, List.mem_singleton]
          constructor
          · rintro (⟨i, rfl, h1, h2⟩ | rfl)
            · exact ⟨i, rfl, h1, by simp [h2]⟩
            · exact ⟨k, rfl, hsk, by simp [sameKey_int]⟩
          · rintro ⟨i, rfl, h1, h2⟩
            by_cases e : i = k
            · right; rw [e]
            · left
              refine ⟨i, rfl, h1, ?_⟩
              have e' : ¬ ((i : Int) = (k : Int)) := by omega
              simpa [sameKey_int, e'] using h2
      case measure => rw [hrg3.left_eq, HL0.out]; exact hlt2
end Go.Proofs.Ytmkheikllbjcbaa
