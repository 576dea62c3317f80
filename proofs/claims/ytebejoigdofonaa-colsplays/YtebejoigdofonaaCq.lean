/-
  cols.Devs: the devices of columns, rising, each once.
-/
import Derived.Test.YtebejoigdofonaaCf
import Derived.Test.YtebejoigdofonaaCm
import Derived.Test.YtebejoigdofonaaCp
import Derived.Test.YtebejoigdofonaaShelf
import Derived.Sort.OwnSorted
import Derived.Sort.OwnSortedInts
namespace Go.Proofs.Ytebejoigdofonaa
open Go.RowKit

theorem own_sort {w : World} {B g n cap : Nat} {zs : List Int} (hn : zs.length = n) (h : OwnI B w (.slice (some ⟨g, 0, none⟩) n cap) zs) (hl : n ≤ 4294967296) (hBw : B ≤ w.heap.size) :
    Calls Try.prog 31 #[.slice (some ⟨g, 0, none⟩) n cap] w fun e w' => e = .returned (.tuple #[]) ∧ OwnI B w' (.slice (some ⟨g, 0, none⟩) n cap) (zs.mergeSort fun x y => decide (x ≤ y)) ∧ Below B w w' := by
  subst hn
  rcases h.2 with ⟨h0, _⟩ | ⟨g', cap', cur, hv, hB, hb, h1, h2, h3, h4⟩
  · cases h0
  cases hv
  refine (Try.slices_Sort_int g 0 cap zs w (holds_of_blockI hb (by simpa using h4)) (Array.getElem?_eq_some_iff.1 hb).1 (by omega)).mono ?_
  rintro e w' ⟨rfl, n, os, rfl⟩
  have hml : (zs.mergeSort fun x y => decide (x ≤ y)).length = zs.length := by simp
  refine ⟨rfl, ?_, ?_⟩
  · have := ownsRow_sortedI (n := n) (os := os) (base := B) (ss := zs) (ts := zs.mergeSort fun x y => decide (x ≤ y)) hml hB hb h1 h2 h3
    unfold OwnI
    rw [hml]
    exact this
  · exact (Below.refl _ w).grown (grownBy_sortedI _) hBw (fun j hj => by cases hj; exact hB)
theorem own_compact {w : World} {B g n cap : Nat} {zs : List Int} (hn : zs.length = n) (h : OwnI B w (.slice (some ⟨g, 0, none⟩) n cap) zs) (hl : n ≤ 4294967296) (hBw : B ≤ w.heap.size) (D : List Int) (hD : Lib.compact zs = D) (hDn : D.length ≤ n) :
    Calls Try.prog 32 #[.slice (some ⟨g, 0, none⟩) n cap] w fun e w' => e = .returned (.slice (some ⟨g, 0, none⟩) D.length cap) ∧ IntsV w' (.slice (some ⟨g, 0, none⟩) D.length cap) D ∧ Below B w w' := by
  subst hn
  rcases h.2 with ⟨h0, _⟩ | ⟨g', cap', cur, hv, hB, hb, h1, h2, h3, h4⟩
  · cases h0
  cases hv
  have hH := holds_of_blockI hb (by simpa using h4)
  refine (Try.slices_Compact_int g 0 cap zs w hH (by omega) h1).mono ?_
  rintro e w' ⟨rfl, q, rfl⟩
  rw [hD]
  have hg := grownBy_sortedI (w := w) (g := g) (n := q) (os := #[]) (D ++ List.replicate (zs.length - D.length) 0).toArray
  rw [Sort.grow_empty] at hg
  refine ⟨rfl, ⟨_, _, _, rfl, rfl, by omega, fun j hj => ⟨g, rfl, ?_, ?_⟩⟩, (Below.refl _ w).grown hg hBw (fun j hj => by cases hj; exact hB)⟩
  · rw [Sort.size_putRow]; exact (Array.getElem?_eq_some_iff.1 hb).1
  · have := Sort.cell?_putRow (Value.int .i64) (Sort.ahead w q) g 0 zs.toArray (D ++ List.replicate (zs.length - D.length) 0).toArray (Sort.holds_ahead _ _ _ _ _ _ hH) (by simp; omega) j (by simp; omega)
    rw [Nat.zero_add] at this
    rw [this]
    congr 2
    rw [getElem!_pos _ j (by simp; omega)]
    simp [List.getElem_append_left hj]

set_option maxHeartbeats 1000000 in
theorem devs_cols (w : World) (v : Value) (L : List C) (hV : ColsV w v L) (h0 : 0 < L.length) (hl : L.length ≤ 100000) (D : List Int) (hD : devsS (L.map C.dev) = D) :
    Calls Try.prog 18 #[v] w fun e w' => ∃ v', e = .returned v' ∧ IntsV w' v' D ∧ Below w.heap.size w w' := by
  obtain ⟨g, n, c, rfl, hn, hlt, hC⟩ := hV.some h0
  rw [hn] at h0 hl
  have HN := Lib.hid hn
  have HC := Lib.hid hC
  have HD := Lib.hid hD
  clear hV hn hC hD
  go_enter Try.func18, Try.ntmps18
  go_wp2_with fail
  go_loopw [3, 8] (fun t3 i8 wr => ∃ j : Nat, j ≤ n ∧ i8 = .int .i64 (j : Int) ∧ Hid (OwnI w.heap.size wr t3 ((L.take j).map C.dev)) ∧ Hid (Below w.heap.size w wr)) (fun _ i _ => n - (intOf i).toNat)
  case atStart => exact ⟨0, Nat.zero_le _, rfl, Lib.hid (OwnI.nil _ _), Lib.hid (Below.refl _ _)⟩
  case round =>
    obtain ⟨j, hj, rfl, HO, HW⟩ := hrel
    have hsz := HW.out.size
    by_cases hjn : j < n
    · have hjl : j < L.length := by rw [HN.out]; exact hjn
      obtain ⟨x, hx⟩ : ∃ x, L[j] = x := ⟨_, rfl⟩
      have hCx := (HC.out j hjl).below hlt HW.out
      rw [hx] at hCx
      obtain ⟨e0, e1, e2, e3⟩ := hCx
      have HT : Hid ((L.take (j + 1)).map C.dev = (L.take j).map C.dev ++ [x.dev]) := Lib.hid (by rw [List.take_add_one, List.getElem?_eq_getElem hjl, hx, List.map_append]; rfl)
      have HLE : Hid (((L.take j).map C.dev).length ≤ 100000) := Lib.hid (by rw [List.length_map, List.length_take]; omega)
      clear hx hjl
      go_wp2_with (first | (at_builtin; refine wpList_append_int _ rfl _ _ rfl w.heap.size _ _ x.dev (wr.heap.size + 1) 1 rfl rfl ((HO.out.below (boxed _ _)).below (boxed _ _)) (by simp) (by simp; omega) HLE.out ?_; intro v3 w3 hown3 hb3 hs3))
      go_roundw
      case rel => exact ⟨j + 1, by omega, by go_num, Lib.hid (by rw [HT.out]; exact hown3), Lib.hid ((grows_alloc (grows_alloc HW.out _) _).trans hb3)⟩
      case measure => simp [intOf]; omega
    · obtain rfl : j = n := by omega
      have hown := HO.out
      rw [List.take_of_length_le (by rw [HN.out]; exact Nat.le_refl _)] at hown
      obtain ⟨ga, ca, rfl⟩ : ∃ ga ca, u3 = .slice (some ⟨ga, 0, none⟩) j ca := by
        rcases hown.2 with ⟨_, h1⟩ | ⟨ga, ca, _, hv, _⟩
        · rw [List.length_map, HN.out] at h1; omega
        · exact ⟨ga, ca, by rw [hv, List.length_map, HN.out]⟩
      have HOW := Lib.hid hown
      have HLN : Hid ((L.map C.dev).length = j) := Lib.hid (by rw [List.length_map]; exact HN.out)
      clear hown HO
      go_wp2_with fail
      refine (own_sort HLN.out HOW.out (by omega) hsz).mono ?_
      rintro e w4 ⟨rfl, ho4, b4⟩
      have HO4 := Lib.hid ho4
      have HB4 := Lib.hid b4
      have HL4 : Hid (((L.map C.dev).mergeSort fun x y => decide (x ≤ y)).length = j) := Lib.hid (by rw [List.length_mergeSort]; exact HLN.out)
      clear ho4 b4
      go_wp2_with fail
      refine (own_compact HL4.out HO4.out (by omega) (Nat.le_trans hsz HB4.out.size) D HD.out (by rw [← HD.out, ← HLN.out]; exact devsS_le _)).mono ?_
      rintro e w5 ⟨rfl, hI, b5⟩
      go_wp2
      go_ret
      exact ⟨_, rfl, hI, (HW.out.trans HB4.out).trans b5⟩
end Go.Proofs.Ytebejoigdofonaa
