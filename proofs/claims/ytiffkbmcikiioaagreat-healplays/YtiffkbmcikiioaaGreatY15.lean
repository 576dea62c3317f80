/-
  Contracts of the kit's shelf, laid at this seat's dump (plain mode of the kit's own script).
  Numbers sorted, each once.
  cols.Devs: the devices of columns, rising, each once.
  The devices of a block's columns: how many there are.
-/
import Derived.Shelf.Strings.Builder1
import Derived.Shelf.Strings.Builder2
import Derived.Shelf.Strings.OnBuilder
import Derived.Shelf.Strings.BuilderF
import Derived.Shelf.Sort.Plain
import Derived.Shelf.Strings.Prefix
import Derived.Shelf.Bits.Mul64
import Derived.Shelf.Strings.Repeat
import Derived.Ground.Names2Prog
import Derived.Shelf.Slices.CompactI
import Derived.Shelf.Slices.In.SortNone
import Derived.Test.YtiffkbmcikiioaaGreatProg
import Derived.Test.YtiffkbmcikiioaaGreatChecked
import Derived.Lib.SlicesCompact
import Derived.Test.YtiffkbmcikiioaaGreatY07
import Derived.Test.YtiffkbmcikiioaaGreatY06
import Derived.Sort.OwnSorted
import Derived.Sort.OwnSortedInts
import Derived.Test.YtiffkbmcikiioaaGreatY14

/- Contracts of the kit's shelf, laid at this seat's dump (plain mode of the kit's own script). -/
namespace Go.Proofs
open Go.Shelf
def Tryz.lays189_ren : Go.Shelf.Ren := ⟨fun | 189 => 53 | 125 => 82 | 257 => 81 | 128 => 119 | 129 => 120 | 294 => 110 | 295 => 111 | 296 => 112 | 297 => 113 | 298 => 114 | 299 => 115 | 216 => 116 | 300 => 117 | 301 => 118 | 328 => 133 | 329 => 134 | 330 => 135 | 331 => 136 | 332 => 137 | 215 => 138 | 343 => 148 | n => n, fun | 28 => 71 | 3 => 3 | 46 => 150 | 0 => 0 | 51 => 184 | 53 => 27 | 4 => 4 | 183 => 176 | 182 => 175 | 131 => 181 | 5 => 5 | 9 => 9 | 218 => 196 | 222 => 200 | 228 => 218 | 229 => 219 | n => n, fun | n => n⟩
theorem Tryz.lays189 : Go.Proofs.Lays.n189 Tryz.prog Tryz.lays189_ren := {
  mixed := by kernel_rfl
  f125 := Tryz.func82.trans (congrArg some (by kernel_rfl))
  f128 := Tryz.func119.trans (congrArg some (by kernel_rfl))
  f129 := Tryz.func120.trans (congrArg some (by kernel_rfl))
  f189 := Tryz.func53.trans (congrArg some (by kernel_rfl))
  f215 := Tryz.func138.trans (congrArg some (by kernel_rfl))
  f216 := Tryz.func116.trans (congrArg some (by kernel_rfl))
  f257 := Tryz.func81.trans (congrArg some (by kernel_rfl))
  f294 := Tryz.func110.trans (congrArg some (by kernel_rfl))
  f295 := Tryz.func111.trans (congrArg some (by kernel_rfl))
  f296 := Tryz.func112.trans (congrArg some (by kernel_rfl))
  f297 := Tryz.func113.trans (congrArg some (by kernel_rfl))
  f298 := Tryz.func114.trans (congrArg some (by kernel_rfl))
  f299 := Tryz.func115.trans (congrArg some (by kernel_rfl))
  f300 := Tryz.func117.trans (congrArg some (by kernel_rfl))
  f301 := Tryz.func118.trans (congrArg some (by kernel_rfl))
  f328 := Tryz.func133.trans (congrArg some (by kernel_rfl))
  f329 := Tryz.func134.trans (congrArg some (by kernel_rfl))
  f330 := Tryz.func135.trans (congrArg some (by kernel_rfl))
  f331 := Tryz.func136.trans (congrArg some (by kernel_rfl))
  f332 := Tryz.func137.trans (congrArg some (by kernel_rfl))
  f343 := Tryz.func148.trans (congrArg some (by kernel_rfl))
  t0 := Tryz.underlying0
  a0 := Tryz.isAgg0
  z0 := Tryz.sizeOf0
  v0 := Tryz.zeroValue0
  t3 := Tryz.underlying3
  a3 := Tryz.isAgg3
  z3 := Tryz.sizeOf3
  v3 := Tryz.zeroValue3
  t4 := Tryz.underlying4
  a4 := Tryz.isAgg4
  z4 := Tryz.sizeOf4
  v4 := Tryz.zeroValue4
  t5 := Tryz.underlying5
  a5 := Tryz.isAgg5
  z5 := Tryz.sizeOf5
  v5 := Tryz.zeroValue5
  t9 := Tryz.underlying9
  a9 := Tryz.isAgg9
  z9 := Tryz.sizeOf9
  v9 := Tryz.zeroValue9
  t28 := Tryz.underlying71
  a28 := Tryz.isAgg71
  z28 := Tryz.sizeOf71
  v28 := Tryz.zeroValue71
  t46 := Tryz.underlying150
  a46 := Tryz.isAgg150
  z46 := Tryz.sizeOf150
  v46 := Tryz.zeroValue150
  t51 := Tryz.underlying184
  a51 := Tryz.isAgg184
  z51 := Tryz.sizeOf184
  v51 := Tryz.zeroValue184
  t53 := Tryz.underlying27
  a53 := Tryz.isAgg27
  z53 := Tryz.sizeOf27
  v53 := Tryz.zeroValue27
  t131 := Tryz.underlying181
  a131 := Tryz.isAgg181
  z131 := Tryz.sizeOf181
  v131 := Tryz.zeroValue181
  t182 := Tryz.underlying175
  a182 := Tryz.isAgg175
  z182 := Tryz.sizeOf175
  v182 := Tryz.zeroValue175
  t183 := Tryz.underlying176
  a183 := Tryz.isAgg176
  z183 := Tryz.sizeOf176
  v183 := Tryz.zeroValue176
  t218 := Tryz.underlying196
  a218 := Tryz.isAgg196
  z218 := Tryz.sizeOf196
  v218 := Tryz.zeroValue196
  t222 := Tryz.underlying200
  a222 := Tryz.isAgg200
  z222 := Tryz.sizeOf200
  v222 := Tryz.zeroValue200
  t228 := Tryz.underlying218
  a228 := Tryz.isAgg218
  z228 := Tryz.sizeOf218
  v228 := Tryz.zeroValue218
  t229 := Tryz.underlying219
  a229 := Tryz.isAgg219
  z229 := Tryz.sizeOf219
  v229 := Tryz.zeroValue219 }
open Go.Sort Go.RowKit in
theorem Tryz.slices_Sort_int (blk off cap : Nat) (zs : List Int) (w : World) (hH : Holds (Value.int .i64) w blk off zs.toArray) (hblk : blk < w.heap.size) (hsz : zs.length < 4611686018427387904) :
    Calls Tryz.prog 53 #[.slice (some ⟨blk, off, none⟩) zs.length cap] w fun e w' =>
      e = .returned (.tuple #[]) ∧ ∃ n os, w' = grow (putRow (Value.int .i64) (Sort.ahead w n) blk off (zs.mergeSort fun x y => decide (x ≤ y)).toArray) os := Any.slices_Sort_int Tryz.lays189 blk off cap zs w hH hblk hsz
def Tryz.laysNm220_ren : Go.Shelf.Ren := ⟨fun | 20 => 128 | n => n, fun | 22 => 71 | 3 => 3 | 4 => 4 | 0 => 0 | n => n, fun | n => n⟩
theorem Tryz.laysNm220 : Go.Proofs.Lays2.n20 Tryz.prog Tryz.laysNm220_ren := {
  mixed := by kernel_rfl
  f20 := Tryz.func128.trans (congrArg some (by kernel_rfl))
  t0 := Tryz.underlying0
  a0 := Tryz.isAgg0
  z0 := Tryz.sizeOf0
  v0 := Tryz.zeroValue0
  t3 := Tryz.underlying3
  a3 := Tryz.isAgg3
  z3 := Tryz.sizeOf3
  v3 := Tryz.zeroValue3
  t4 := Tryz.underlying4
  a4 := Tryz.isAgg4
  z4 := Tryz.sizeOf4
  v4 := Tryz.zeroValue4
  t22 := Tryz.underlying71
  a22 := Tryz.isAgg71
  z22 := Tryz.sizeOf71
  v22 := Tryz.zeroValue71
  i3 := by kernel_rfl }
open Go.RowKit Go.Lib Go.Sort in
theorem Tryz.slices_Compact_int (blk off cap : Nat) (zs : List Int) (w : World) (hH : Holds (Value.int .i64) w blk off zs.toArray) (hsz : zs.length ≤ 9223372036854775807) (hcap : zs.length ≤ cap) :
    Calls Tryz.prog 128 #[.slice (some ⟨blk, off, none⟩) zs.length cap] w fun e w' => e = .returned (.slice (some ⟨blk, off, none⟩) (Lib.compact zs).length cap) ∧ ∃ q, w' = putRow (Value.int .i64) (Sort.ahead w q) blk off (Lib.compact zs ++ List.replicate (zs.length - (Lib.compact zs).length) 0).toArray := Any.slices_Compact_int Tryz.laysNm220 blk off cap zs w hH hsz hcap
end Go.Proofs

/- Numbers sorted, each once. -/
namespace Go.Proofs.YtiffkbmcikiioaaGreat
set_option maxRecDepth 100000

theorem lt_ext : ∀ (l m : List Int), l.Pairwise (· < ·) → m.Pairwise (· < ·) → (∀ x, x ∈ l ↔ x ∈ m) → l = m
  | [], [], _, _, _ => rfl
  | [], y :: m, _, _, h => by have := (h y).2 List.mem_cons_self; cases this
  | x :: l, [], _, _, h => by have := (h x).1 List.mem_cons_self; cases this
  | x :: l, y :: m, hl, hm, h => by
    obtain ⟨h1, h2⟩ := List.pairwise_cons.1 hl
    obtain ⟨h3, h4⟩ := List.pairwise_cons.1 hm
    have e : x = y := by
      rcases List.mem_cons.1 ((h x).1 List.mem_cons_self) with e | e
      · exact e
      · rcases List.mem_cons.1 ((h y).2 List.mem_cons_self) with e' | e'
        · exact e'.symm
        · have := h3 x e; have := h1 y e'; omega
    subst e
    rw [lt_ext l m h2 h4 fun z => ⟨fun hz => ?_, fun hz => ?_⟩]
    · rcases List.mem_cons.1 ((h z).1 (List.mem_cons_of_mem _ hz)) with e | e
      · subst e; have := h1 z hz; omega
      · exact e
    · rcases List.mem_cons.1 ((h z).2 (List.mem_cons_of_mem _ hz)) with e | e
      · subst e; have := h3 z hz; omega
      · exact e
/-- Of sorted numbers each once: rising, and the same ones. -/
theorem compact_up (d : Array Int) (hs : ∀ i j, i ≤ j → j < d.size → d[i]! ≤ d[j]!) (m : Nat) (hm : m ≤ d.size) :
    (Lib.compactUpTo d m).Pairwise (· < ·) ∧ ∀ x, x ∈ Lib.compactUpTo d m ↔ ∃ j, j < m ∧ d[j]! = x := by
  induction m with
  | zero => exact ⟨by simp [Lib.compactUpTo], fun x => ⟨fun h => by simp [Lib.compactUpTo] at h, fun ⟨j, h, _⟩ => absurd h (Nat.not_lt_zero _)⟩⟩
  | succ m ih =>
    obtain ⟨h1, h2⟩ := ih (by omega)
    rw [Lib.compactUpTo_succ]
    by_cases hk : Lib.keeps d m = true
    · rw [if_pos hk]
      have hlt : ∀ x ∈ Lib.compactUpTo d m, x < d[m]! := fun x hx => by
        obtain ⟨j, hj, e⟩ := (h2 x).1 hx
        have hm0 : ¬ m = 0 := by omega
        have hne : d[m]! ≠ d[m - 1]! := by simpa [Lib.keeps, hm0] using hk
        have a := hs (m - 1) m (by omega) (by omega)
        have b := hs j (m - 1) (by omega) (by omega)
        omega
      refine ⟨List.pairwise_append.2 ⟨h1, by simp, fun a ha b hb => ?_⟩, fun x => ?_⟩
      · rw [List.mem_singleton.1 hb]; exact hlt a ha
      · rw [List.mem_append, h2 x, List.mem_singleton]
        constructor
        · rintro (⟨j, hj, e⟩ | e)
          · exact ⟨j, by omega, e⟩
          · exact ⟨m, by omega, e.symm⟩
        · rintro ⟨j, hj, e⟩
          by_cases ej : j = m
          · subst ej; exact .inr e.symm
          · exact .inl ⟨j, by omega, e⟩
    · rw [if_neg hk, List.append_nil]
      refine ⟨h1, fun x => ?_⟩
      rw [h2 x]
      have hk' : ¬ (m = 0 ∨ d[m]! ≠ d[m - 1]!) := by simpa [Lib.keeps] using hk
      have hm0 : m ≠ 0 := fun e => hk' (.inl e)
      have he : d[m]! = d[m - 1]! := Decidable.byContradiction fun e => hk' (.inr e)
      constructor
      · rintro ⟨j, hj, e⟩; exact ⟨j, by omega, e⟩
      · rintro ⟨j, hj, e⟩
        by_cases ej : j = m
        · subst ej; exact ⟨j - 1, by omega, by rw [← he]; exact e⟩
        · exact ⟨j, by omega, e⟩
def devsS (zs : List Int) : List Int := Lib.compact (zs.mergeSort fun x y => decide (x ≤ y))
theorem devsS_spec (zs : List Int) : (devsS zs).Pairwise (· < ·) ∧ ∀ x, x ∈ devsS zs ↔ x ∈ zs := by
  have h1 := List.pairwise_mergeSort (le := fun x y : Int => decide (x ≤ y)) (fun a b c h1 h2 => by simp at *; omega) (fun a b => by simp; omega) zs
  obtain ⟨ys, hy⟩ : ∃ ys, zs.mergeSort (fun x y => decide (x ≤ y)) = ys := ⟨_, rfl⟩
  have hmem : ∀ x, x ∈ ys ↔ x ∈ zs := fun x => by rw [← hy, List.mem_mergeSort]
  unfold devsS
  rw [hy]
  rw [hy] at h1
  have hget : ∀ j, j < ys.length → ys.toArray[j]! = ys[j]! := fun j _ => by simp
  have hs : ∀ i j, i ≤ j → j < ys.toArray.size → ys.toArray[i]! ≤ ys.toArray[j]! := fun i j hij hj => by
    have hj' : j < ys.length := by simpa using hj
    rw [hget i (by omega), hget j hj', getElem!_pos ys i (by omega), getElem!_pos ys j hj']
    rcases Nat.lt_or_ge i j with h | h
    · have := List.pairwise_iff_getElem.1 h1 i j (by omega) hj' h
      simpa using this
    · obtain rfl : i = j := by omega
      exact Int.le_refl _
  obtain ⟨h2, h3⟩ := compact_up ys.toArray hs ys.length (by simp)
  refine ⟨h2, fun x => ?_⟩
  rw [← hmem x]
  refine (h3 x).trans ⟨?_, ?_⟩
  · rintro ⟨j, hj, e⟩
    rw [hget j hj, getElem!_pos ys j hj] at e
    rw [← e]; exact List.getElem_mem hj
  · intro h
    obtain ⟨j, hj, e⟩ := List.getElem_of_mem h
    exact ⟨j, hj, by rw [hget j hj, getElem!_pos ys j hj]; exact e⟩
theorem devsS_nodup {zs : List Int} (h : zs.Nodup) : (devsS zs).length = zs.length := by
  obtain ⟨h1, h2⟩ := devsS_spec zs
  have h3 : (devsS zs).Nodup := h1.imp fun h => by omega
  exact ((List.perm_ext_iff_of_nodup h3 h).2 h2).length_eq
theorem devsS_run {zs : List Int} {f : Int} {u : Nat} (h : ∀ x, x ∈ zs ↔ f ≤ x ∧ x < f + u) : (devsS zs).length = u := by
  obtain ⟨h1, h2⟩ := devsS_spec zs
  have e : devsS zs = (List.range u).map fun i : Nat => f + (i : Int) := by
    refine lt_ext _ _ h1 ?_ fun x => ?_
    · rw [List.pairwise_map]
      exact List.pairwise_lt_range.imp fun h => by omega
    · rw [h2 x, h x, List.mem_map]
      constructor
      · rintro ⟨ha, hb⟩; exact ⟨(x - f).toNat, List.mem_range.2 (by omega), by omega⟩
      · rintro ⟨i, hi, rfl⟩; have := List.mem_range.1 hi; omega
  rw [e]; simp
theorem devsS_pos {zs : List Int} (h : 0 < zs.length) : 0 < (devsS zs).length := by
  obtain ⟨_, h2⟩ := devsS_spec zs
  exact List.length_pos_of_mem ((h2 zs[0]).2 (List.getElem_mem h))
theorem devsS_le (zs : List Int) : (devsS zs).length ≤ zs.length := by
  have h : ∀ (d : Array Int) (m : Nat), (Lib.compactUpTo d m).length ≤ m := fun d m => by
    induction m with
    | zero => simp [Lib.compactUpTo]
    | succ m ih => rw [Lib.compactUpTo_succ, List.length_append]; split <;> simp <;> omega
  have := h (zs.mergeSort fun x y => decide (x ≤ y)).toArray (zs.mergeSort fun x y => decide (x ≤ y)).length
  unfold devsS Lib.compact
  rw [List.length_mergeSort] at this ⊢
  exact this
end Go.Proofs.YtiffkbmcikiioaaGreat

/- cols.Devs: the devices of columns, rising, each once. -/
namespace Go.Proofs.YtiffkbmcikiioaaGreat
set_option maxRecDepth 100000
open Go.RowKit

theorem own_sort {w : World} {B g n cap : Nat} {zs : List Int} (hn : zs.length = n) (h : OwnI B w (.slice (some ⟨g, 0, none⟩) n cap) zs) (hl : n ≤ 4294967296) (hBw : B ≤ w.heap.size) :
    Calls Tryz.prog 53 #[.slice (some ⟨g, 0, none⟩) n cap] w fun e w' => e = .returned (.tuple #[]) ∧ OwnI B w' (.slice (some ⟨g, 0, none⟩) n cap) (zs.mergeSort fun x y => decide (x ≤ y)) ∧ Below B w w' := by
  subst hn
  rcases h.2 with ⟨h0, _⟩ | ⟨g', cap', cur, hv, hB, hb, h1, h2, h3, h4⟩
  · cases h0
  cases hv
  refine (Tryz.slices_Sort_int g 0 cap zs w (holds_of_blockI hb (by simpa using h4)) (Array.getElem?_eq_some_iff.1 hb).1 (by omega)).mono ?_
  rintro e w' ⟨rfl, n, os, rfl⟩
  have hml : (zs.mergeSort fun x y => decide (x ≤ y)).length = zs.length := by simp
  refine ⟨rfl, ?_, ?_⟩
  · have := ownsRow_sortedI (n := n) (os := os) (base := B) (ss := zs) (ts := zs.mergeSort fun x y => decide (x ≤ y)) hml hB hb h1 h2 h3
    unfold OwnI
    rw [hml]
    exact this
  · exact (Below.refl _ w).grown (grownBy_sortedI _) hBw (fun j hj => by cases hj; exact hB)
theorem own_compact {w : World} {B g n cap : Nat} {zs : List Int} (hn : zs.length = n) (h : OwnI B w (.slice (some ⟨g, 0, none⟩) n cap) zs) (hl : n ≤ 4294967296) (hBw : B ≤ w.heap.size) (D : List Int) (hD : Lib.compact zs = D) (hDn : D.length ≤ n) :
    Calls Tryz.prog 128 #[.slice (some ⟨g, 0, none⟩) n cap] w fun e w' => e = .returned (.slice (some ⟨g, 0, none⟩) D.length cap) ∧ IntsV w' (.slice (some ⟨g, 0, none⟩) D.length cap) D ∧ Below B w w' := by
  subst hn
  rcases h.2 with ⟨h0, _⟩ | ⟨g', cap', cur, hv, hB, hb, h1, h2, h3, h4⟩
  · cases h0
  cases hv
  have hH := holds_of_blockI hb (by simpa using h4)
  refine (Tryz.slices_Compact_int g 0 cap zs w hH (by omega) h1).mono ?_
  rintro e w' ⟨rfl, q, rfl⟩
  rw [hD]
  have hg := grownBy_sortedI (w := w) (g := g) (n := q) (os := #[]) (D ++ List.replicate (zs.length - D.length) 0).toArray
  rw [Sort.grow_empty] at hg
  refine ⟨rfl, ⟨_, _, _, rfl, rfl, by omega, fun j hj => ⟨g, rfl, ?_, ?_⟩⟩, (Below.refl _ w).grown hg hBw (fun j hj => by cases hj; exact hB)⟩
  · rw [Sort.size_putRow]; exact (Array.getElem?_eq_some_iff.1 hb).1
  · have := Sort.cell?_putRow (Value.int .i64) (Sort.ahead w q) g 0 zs.toArray (D ++ List.replicate (zs.length - D.length) 0).toArray (Sort.holds_ahead _ _ _ _ _ _ hH) (by simp; omega) j (by simp; omega)
    rw [Nat.zero_add] at this
    rw [this]
    congr 2
    rw [getElem!_pos _ j (by simp; omega)]
    simp [List.getElem_append_left hj]

set_option maxHeartbeats 1000000 in
theorem devs_cols (w : World) (v : Value) (L : List C) (hV : ColsV w v L) (h0 : 0 < L.length) (hl : L.length ≤ 100000) (D : List Int) (hD : devsS (L.map C.dev) = D) :
    Calls Tryz.prog 96 #[v] w fun e w' => ∃ v', e = .returned v' ∧ IntsV w' v' D ∧ Below w.heap.size w w' := by
  obtain ⟨g, n, c, rfl, hn, hlt, hC⟩ := hV.some h0
  rw [hn] at h0 hl
  have HN := Lib.hid hn
  have HC := Lib.hid hC
  have HD := Lib.hid hD
  clear hV hn hC hD
  go_enter Tryz.func96, Tryz.ntmps96
  go_wp2_with fail
  go_loopw [3, 8] (fun t3 i8 wr => ∃ j : Nat, j ≤ n ∧ i8 = .int .i64 (j : Int) ∧ Hid (OwnI w.heap.size wr t3 ((L.take j).map C.dev)) ∧ Hid (Below w.heap.size w wr)) (fun _ i _ => n - (intOf i).toNat)
  case atStart => exact ⟨0, Nat.zero_le _, rfl, Lib.hid (OwnI.nil _ _), Lib.hid (Below.refl _ _)⟩
  case round =>
    obtain ⟨j, hj, rfl, HO, HW⟩ := hrel
    have hsz := HW.out.size
    by_cases hjn : j < n
    · have hjl : j < L.length := by rw [HN.out]; exact hjn
      obtain ⟨x, hx⟩ : ∃ x, L[j] = x := ⟨_, rfl⟩
      have hCx := (HC.out j hjl).below hlt HW.out
      rw [hx] at hCx
      obtain ⟨e0, e1, e2, e3⟩ := hCx
      have HT : Hid ((L.take (j + 1)).map C.dev = (L.take j).map C.dev ++ [x.dev]) := Lib.hid (by rw [List.take_add_one, List.getElem?_eq_getElem hjl, hx, List.map_append]; rfl)
      have HLE : Hid (((L.take j).map C.dev).length ≤ 100000) := Lib.hid (by rw [List.length_map, List.length_take]; omega)
      clear hx hjl
      go_wp2_with (first | (at_builtin; refine wpList_append_int _ rfl _ _ rfl w.heap.size _ _ x.dev (wr.heap.size + 1) 1 rfl rfl ((HO.out.below (boxed _ _)).below (boxed _ _)) (by simp) (by simp; omega) HLE.out ?_; intro v3 w3 hown3 hb3 hs3))
      go_roundw
      case rel => exact ⟨j + 1, by omega, by go_num, Lib.hid (by rw [HT.out]; exact hown3), Lib.hid ((grows_alloc (grows_alloc HW.out _) _).trans hb3)⟩
      case measure => simp [intOf]; omega
    · obtain rfl : j = n := by omega
      have hown := HO.out
      rw [List.take_of_length_le (by rw [HN.out]; exact Nat.le_refl _)] at hown
      obtain ⟨ga, ca, rfl⟩ : ∃ ga ca, u3 = .slice (some ⟨ga, 0, none⟩) j ca := by
        rcases hown.2 with ⟨_, h1⟩ | ⟨ga, ca, _, hv, _⟩
        · rw [List.length_map, HN.out] at h1; omega
        · exact ⟨ga, ca, by rw [hv, List.length_map, HN.out]⟩
      have HOW := Lib.hid hown
      have HLN : Hid ((L.map C.dev).length = j) := Lib.hid (by rw [List.length_map]; exact HN.out)
      clear hown HO
      go_wp2_with fail
      refine (own_sort HLN.out HOW.out (by omega) hsz).mono ?_
      rintro e w4 ⟨rfl, ho4, b4⟩
      have HO4 := Lib.hid ho4
      have HB4 := Lib.hid b4
      have HL4 : Hid (((L.map C.dev).mergeSort fun x y => decide (x ≤ y)).length = j) := Lib.hid (by rw [List.length_mergeSort]; exact HLN.out)
      clear ho4 b4
      go_wp2_with fail
      refine (own_compact HL4.out HO4.out (by omega) (Nat.le_trans hsz HB4.out.size) D HD.out (by rw [← HD.out, ← HLN.out]; exact devsS_le _)).mono ?_
      rintro e w5 ⟨rfl, hI, b5⟩
      go_wp2
      go_ret
      exact ⟨_, rfl, hI, (HW.out.trans HB4.out).trans b5⟩
end Go.Proofs.YtiffkbmcikiioaaGreat

/- The devices of a block's columns: how many there are. -/
namespace Go.Proofs.YtiffkbmcikiioaaGreat
set_option maxRecDepth 100000
open Go.RowKit

structure Devd (f kk : Int) (u z : Nat) (L : List C) (D : List Int) : Prop where
  in_ : ∀ j (h : j < D.length), f ≤ D[j] ∧ D[j] < f + u
  up : ∀ j (h : j + 1 < D.length), D[j] < D[j + 1]
  pos : 0 < D.length
  few : D.length ≤ 32
  mir : kk = 0 → D.length = u ∧ L.length = z * u
  par : kk = 1 → D.length = (if L.length < u then L.length else u) ∧ z < L.length ∧ (L.length : Int) ≤ takesG (kk, (u : Int)) z
theorem devd (f kk : Int) (u : Nat) (s : Int) (t z : Nat) (hok : okG (kk, (u : Int)) = true) (z1 : 1 ≤ z) (z4 : z ≤ 4) (fit : (t : Int) + takesG (kk, (u : Int)) z ≤ gives (kk, (u : Int)) s) :
    Devd f kk u z (colsG f (kk, (u : Int)) t z) (devsS ((colsG f (kk, (u : Int)) t z).map C.dev)) := by
  have hL := laid f kk u s t z hok z1 z4 fit
  obtain ⟨h1, h2⟩ := devsS_spec ((colsG f (kk, (u : Int)) t z).map C.dev)
  have hu8 := okG_wide hok
  dsimp only at hu8
  refine ⟨fun j h => ?_, fun j h => List.pairwise_iff_getElem.1 h1 j (j + 1) (by omega) h (by omega), devsS_pos (by rw [List.length_map]; exact hL.pos), Nat.le_trans (devsS_le _) (by rw [List.length_map]; exact hL.few), fun e => ?_, fun e => ?_⟩
  · obtain ⟨c, hc, e⟩ := List.mem_map.1 ((h2 _).1 (List.getElem_mem h))
    obtain ⟨i, hi, rfl⟩ := List.getElem_of_mem hc
    rw [← e]
    exact ⟨hL.dev0 i hi, hL.dev1 i hi⟩
  · subst e
    have e : colsG f (0, (u : Int)) t z = mirL f t u z := by unfold colsG; rw [if_pos rfl]; simp
    rw [e]
    have hzp : 0 < z := by omega
    refine ⟨devsS_run (f := f) fun x => ?_, by rw [mirL_len, Nat.mul_comm]⟩
    rw [List.mem_map]
    constructor
    · rintro ⟨c, hc, rfl⟩
      obtain ⟨i, hi, rfl⟩ := List.getElem_of_mem hc
      have a := hL.dev0
      have b := hL.dev1
      rw [e] at a b
      exact ⟨a i hi, b i hi⟩
    · rintro ⟨ha, hb⟩
      obtain ⟨d, hd⟩ := Int.eq_ofNat_of_zero_le (show 0 ≤ x - f by omega)
      have hdu : d < u := by omega
      have hj : d * z < (mirL f t u z).length := by
        rw [mirL_len]
        have : (d + 1) * z ≤ u * z := Nat.mul_le_mul_right z hdu
        rw [Nat.add_mul, Nat.one_mul] at this
        omega
      refine ⟨_, List.getElem_mem hj, ?_⟩
      rw [mirL_get f t z hzp u _ hj]
      show f + ((d * z / z : Nat) : Int) = x
      rw [Nat.mul_div_cancel _ hzp]
      omega
  · subst e
    have e : colsG f (1, (u : Int)) t z = parTo f t u z := by unfold colsG; rw [if_neg Int.one_ne_zero]; simp
    have hu3 : 3 ≤ u := by
      rcases okG_cases hok with ⟨h, _⟩ | ⟨_, h, _⟩
      · omega
      · omega
    rw [e]
    obtain ⟨p1, p2, p3⟩ := par_fits u (by omega) hu3 z (by omega) z1
    rw [← parTo_len0 f t u z] at p1 p2 p3
    refine ⟨?_, by omega, p2⟩
    by_cases hn : (parTo f t u z).length < u
    · rw [if_pos hn, devsS_nodup, List.length_map]
      rw [List.nodup_iff_pairwise_ne, List.pairwise_iff_getElem]
      intro i j hi hj hij
      rw [List.length_map] at hi hj
      rw [List.getElem_map, List.getElem_map]
      obtain ⟨r1, b1, e1⟩ := parTo_get f t u z i hi
      obtain ⟨r2, b2, e2⟩ := parTo_get f t u z j hj
      rw [e1, e2]
      intro ed
      have ed' : f + (((t + i) % u : Nat) : Int) = f + (((t + j) % u : Nat) : Int) := ed
      have e3 : (t + i) % u = (t + j) % u := by omega
      have h2 := Nat.div_add_mod (t + i) u
      have h3 := Nat.div_add_mod (t + j) u
      rw [e3] at h2
      have h4 : u * ((t + j) / u) = u * ((t + i) / u) + (j - i) := by omega
      rcases Nat.lt_or_ge ((t + i) / u) ((t + j) / u) with h5 | h5
      · have h6 : u * ((t + i) / u + 1) ≤ u * ((t + j) / u) := Nat.mul_le_mul_left u h5
        rw [Nat.mul_add, Nat.mul_one] at h6
        omega
      · have h6 : u * ((t + j) / u) ≤ u * ((t + i) / u) := Nat.mul_le_mul_left u h5
        omega
    · rw [if_neg hn]
      refine devsS_run (f := f) fun x => ?_
      rw [List.mem_map]
      constructor
      · rintro ⟨c, hc, rfl⟩
        obtain ⟨i, hi, rfl⟩ := List.getElem_of_mem hc
        have a := hL.dev0
        have b := hL.dev1
        rw [e] at a b
        exact ⟨a i hi, b i hi⟩
      · rintro ⟨ha, hb⟩
        obtain ⟨d, hd⟩ := Int.eq_ofNat_of_zero_le (show 0 ≤ x - f by omega)
        have hdu : d < u := by omega
        have hmt := Nat.mod_lt t (show 0 < u by omega)
        have hjm := Nat.mod_lt (d + (u - t % u)) (show 0 < u by omega)
        have hj : (d + (u - t % u)) % u < (parTo f t u z).length := by omega
        refine ⟨_, List.getElem_mem hj, ?_⟩
        obtain ⟨r1, b1, e1⟩ := parTo_get f t u z _ hj
        rw [e1]
        show f + (((t + (d + (u - t % u)) % u) % u : Nat) : Int) = x
        have e4 : (t + (d + (u - t % u)) % u) % u = d := by
          rw [Nat.add_mod, Nat.mod_mod, ← Nat.add_mod]
          have h2 := Nat.div_add_mod t u
          have e5 : t + (d + (u - t % u)) = d + u * (t / u + 1) := by rw [Nat.mul_add, Nat.mul_one]; omega
          rw [e5, Nat.add_mul_mod_self_left, Nat.mod_eq_of_lt hdu]
        rw [e4]
        omega
theorem Blk.devd {l : List (Int × Int)} {s : Int} {k t z : Nat} (h : Blk l s k t z) {kk : Int} {u : Nat} (hl : l[k]'h.hk = (kk, (u : Int))) : Devd (aheadL l k) kk u z (colsOf l k t z) (devsS ((colsOf l k t z).map C.dev)) := by
  have hk := h.hk
  have hok := h.right.all k hk
  have hf := h.fit
  unfold colsOf
  rw [getD_at hk, hl]
  rw [hl] at hok hf
  exact Proofs.YtiffkbmcikiioaaGreat.devd _ _ _ s _ _ hok h.z1 h.z4 hf
end Go.Proofs.YtiffkbmcikiioaaGreat
