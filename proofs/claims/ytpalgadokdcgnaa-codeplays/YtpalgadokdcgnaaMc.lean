/-
  Numbers sorted, each once.
  Contracts of the kit's shelf, laid at this seat's dump (plain mode of the kit's own script).
  cols.Devs: the devices of columns, rising, each once.
  par.Even, par.Blank, polderlaw03.few: what they answer.
  par.Blank, the document's Zeros and Even, polderlaw03.few: what they answer.
  par.mix, par.Make: what they answer.
  polderlaw03.awake, par.Right: what they answer.
  A text of zero bytes, made.
  A slice of texts that is one's own: one of its texts read, and laid anew.
  slices.Grow, slices.Concat of two, par.Again: what they answer.
  par.Again: what it answers.
  code's small calls: a sector, a list that lacks one, texts one behind the other.
  code.again, code.without: a column made again; a device's columns made again.
  code.without: the data columns, a device's made again.
  code.ofMirror, code.ofParity, code.Tries: what is answered is a function that hands out tries.
  code.ofMirror: the function that it answers hands out the tries of a Mirror's columns.
  code.ofParity: the function that it answers hands out the tries of a Parity's columns.
-/
import Derived.Test.YtpalgadokdcgnaaMb
import Derived.Test.YtpalgadokdcgnaaChecked
import Derived.Lib.SlicesCompact
import Derived.Shelf.Strings.Builder1
import Derived.Shelf.Strings.Builder2
import Derived.Shelf.Strings.OnBuilder
import Derived.Shelf.Sort.Plain
import Derived.Ground.Names2Prog
import Derived.Shelf.Slices.CompactI
import Derived.Shelf.Slices.Cells
import Derived.Shelf.Slices.In.SortNone
import Derived.Test.YtpalgadokdcgnaaProg
import Derived.Sort.OwnSorted
import Derived.Sort.OwnSortedInts
import Derived.StillTailTactics
import Derived.Laws.MakeOwn
import Derived.Deep.RegionWith
import Derived.Shelf.Abstract
import Derived.Shelf.RegionOpen
import Derived.OwnWalkIn
import Derived.TacticsInMore
import Derived.LoopNIn
import Derived.LoopIn

/- Numbers sorted, each once. -/
namespace Go.Proofs.Ytpalgadokdcgnaa
set_option maxRecDepth 100000

theorem lt_ext : ∀ (l m : List Int), l.Pairwise (· < ·) → m.Pairwise (· < ·) → (∀ x, x ∈ l ↔ x ∈ m) → l = m
  | [], [], _, _, _ => rfl
  | [], y :: m, _, _, h => by have := (h y).2 List.mem_cons_self; cases this
  | x :: l, [], _, _, h => by have := (h x).1 List.mem_cons_self; cases this
  | x :: l, y :: m, hl, hm, h => by
    obtain ⟨h1, h2⟩ := List.pairwise_cons.1 hl
    obtain ⟨h3, h4⟩ := List.pairwise_cons.1 hm
    have e : x = y := by
      rcases List.mem_cons.1 ((h x).1 List.mem_cons_self) with e | e
      · exact e
      · rcases List.mem_cons.1 ((h y).2 List.mem_cons_self) with e' | e'
        · exact e'.symm
        · have := h3 x e; have := h1 y e'; omega
    subst e
    rw [lt_ext l m h2 h4 fun z => ⟨fun hz => ?_, fun hz => ?_⟩]
    · rcases List.mem_cons.1 ((h z).1 (List.mem_cons_of_mem _ hz)) with e | e
      · subst e; have := h1 z hz; omega
      · exact e
    · rcases List.mem_cons.1 ((h z).2 (List.mem_cons_of_mem _ hz)) with e | e
      · subst e; have := h3 z hz; omega
      · exact e
/-- Of sorted numbers each once: rising, and the same ones. -/
theorem compact_up (d : Array Int) (hs : ∀ i j, i ≤ j → j < d.size → d[i]! ≤ d[j]!) (m : Nat) (hm : m ≤ d.size) :
    (Lib.compactUpTo d m).Pairwise (· < ·) ∧ ∀ x, x ∈ Lib.compactUpTo d m ↔ ∃ j, j < m ∧ d[j]! = x := by
  induction m with
  | zero => exact ⟨by simp [Lib.compactUpTo], fun x => ⟨fun h => by simp [Lib.compactUpTo] at h, fun ⟨j, h, _⟩ => absurd h (Nat.not_lt_zero _)⟩⟩
  | succ m ih =>
    obtain ⟨h1, h2⟩ := ih (by omega)
    rw [Lib.compactUpTo_succ]
    by_cases hk : Lib.keeps d m = true
    · rw [if_pos hk]
      have hlt : ∀ x ∈ Lib.compactUpTo d m, x < d[m]! := fun x hx => by
        obtain ⟨j, hj, e⟩ := (h2 x).1 hx
        have hm0 : ¬ m = 0 := by omega
        have hne : d[m]! ≠ d[m - 1]! := by simpa [Lib.keeps, hm0] using hk
        have a := hs (m - 1) m (by omega) (by omega)
        have b := hs j (m - 1) (by omega) (by omega)
        omega
      refine ⟨List.pairwise_append.2 ⟨h1, by simp, fun a ha b hb => ?_⟩, fun x => ?_⟩
      · rw [List.mem_singleton.1 hb]; exact hlt a ha
      · rw [List.mem_append, h2 x, List.mem_singleton]
        constructor
        · rintro (⟨j, hj, e⟩ | e)
          · exact ⟨j, by omega, e⟩
          · exact ⟨m, by omega, e.symm⟩
        · rintro ⟨j, hj, e⟩
          by_cases ej : j = m
          · subst ej; exact .inr e.symm
          · exact .inl ⟨j, by omega, e⟩
    · rw [if_neg hk, List.append_nil]
      refine ⟨h1, fun x => ?_⟩
      rw [h2 x]
      have hk' : ¬ (m = 0 ∨ d[m]! ≠ d[m - 1]!) := by simpa [Lib.keeps] using hk
      have hm0 : m ≠ 0 := fun e => hk' (.inl e)
      have he : d[m]! = d[m - 1]! := Decidable.byContradiction fun e => hk' (.inr e)
      constructor
      · rintro ⟨j, hj, e⟩; exact ⟨j, by omega, e⟩
      · rintro ⟨j, hj, e⟩
        by_cases ej : j = m
        · subst ej; exact ⟨j - 1, by omega, by rw [← he]; exact e⟩
        · exact ⟨j, by omega, e⟩
def devsS (zs : List Int) : List Int := Lib.compact (zs.mergeSort fun x y => decide (x ≤ y))
theorem devsS_spec (zs : List Int) : (devsS zs).Pairwise (· < ·) ∧ ∀ x, x ∈ devsS zs ↔ x ∈ zs := by
  have h1 := List.pairwise_mergeSort (le := fun x y : Int => decide (x ≤ y)) (fun a b c h1 h2 => by simp at *; omega) (fun a b => by simp; omega) zs
  obtain ⟨ys, hy⟩ : ∃ ys, zs.mergeSort (fun x y => decide (x ≤ y)) = ys := ⟨_, rfl⟩
  have hmem : ∀ x, x ∈ ys ↔ x ∈ zs := fun x => by rw [← hy, List.mem_mergeSort]
  unfold devsS
  rw [hy]
  rw [hy] at h1
  have hget : ∀ j, j < ys.length → ys.toArray[j]! = ys[j]! := fun j _ => by simp
  have hs : ∀ i j, i ≤ j → j < ys.toArray.size → ys.toArray[i]! ≤ ys.toArray[j]! := fun i j hij hj => by
    have hj' : j < ys.length := by simpa using hj
    rw [hget i (by omega), hget j hj', getElem!_pos ys i (by omega), getElem!_pos ys j hj']
    rcases Nat.lt_or_ge i j with h | h
    · have := List.pairwise_iff_getElem.1 h1 i j (by omega) hj' h
      simpa using this
    · obtain rfl : i = j := by omega
      exact Int.le_refl _
  obtain ⟨h2, h3⟩ := compact_up ys.toArray hs ys.length (by simp)
  refine ⟨h2, fun x => ?_⟩
  rw [← hmem x]
  refine (h3 x).trans ⟨?_, ?_⟩
  · rintro ⟨j, hj, e⟩
    rw [hget j hj, getElem!_pos ys j hj] at e
    rw [← e]; exact List.getElem_mem hj
  · intro h
    obtain ⟨j, hj, e⟩ := List.getElem_of_mem h
    exact ⟨j, hj, by rw [hget j hj, getElem!_pos ys j hj]; exact e⟩
theorem devsS_nodup {zs : List Int} (h : zs.Nodup) : (devsS zs).length = zs.length := by
  obtain ⟨h1, h2⟩ := devsS_spec zs
  have h3 : (devsS zs).Nodup := h1.imp fun h => by omega
  exact ((List.perm_ext_iff_of_nodup h3 h).2 h2).length_eq
theorem devsS_run {zs : List Int} {f : Int} {u : Nat} (h : ∀ x, x ∈ zs ↔ f ≤ x ∧ x < f + u) : (devsS zs).length = u := by
  obtain ⟨h1, h2⟩ := devsS_spec zs
  have e : devsS zs = (List.range u).map fun i : Nat => f + (i : Int) := by
    refine lt_ext _ _ h1 ?_ fun x => ?_
    · rw [List.pairwise_map]
      exact List.pairwise_lt_range.imp fun h => by omega
    · rw [h2 x, h x, List.mem_map]
      constructor
      · rintro ⟨ha, hb⟩; exact ⟨(x - f).toNat, List.mem_range.2 (by omega), by omega⟩
      · rintro ⟨i, hi, rfl⟩; have := List.mem_range.1 hi; omega
  rw [e]; simp
theorem devsS_pos {zs : List Int} (h : 0 < zs.length) : 0 < (devsS zs).length := by
  obtain ⟨_, h2⟩ := devsS_spec zs
  exact List.length_pos_of_mem ((h2 zs[0]).2 (List.getElem_mem h))
theorem devsS_le (zs : List Int) : (devsS zs).length ≤ zs.length := by
  have h : ∀ (d : Array Int) (m : Nat), (Lib.compactUpTo d m).length ≤ m := fun d m => by
    induction m with
    | zero => simp [Lib.compactUpTo]
    | succ m ih => rw [Lib.compactUpTo_succ, List.length_append]; split <;> simp <;> omega
  have := h (zs.mergeSort fun x y => decide (x ≤ y)).toArray (zs.mergeSort fun x y => decide (x ≤ y)).length
  unfold devsS Lib.compact
  rw [List.length_mergeSort] at this ⊢
  exact this
end Go.Proofs.Ytpalgadokdcgnaa

/- Contracts of the kit's shelf, laid at this seat's dump (plain mode of the kit's own script). -/
namespace Go.Proofs
open Go.Shelf
def Try.lays156_ren : Go.Shelf.Ren := ⟨fun | 156 => 58 | 165 => 66 | 166 => 67 | 169 => 68 | 240 => 73 | 241 => 74 | 276 => 87 | 277 => 88 | n => n, fun | 31 => 27 | 9 => 9 | 3 => 3 | 4 => 4 | 0 => 0 | 20 => 20 | 72 => 101 | 76 => 105 | 70 => 99 | 37 => 48 | 75 => 104 | 127 => 113 | 164 => 128 | 5 => 5 | 80 => 107 | n => n, fun | n => n⟩
theorem Try.lays156 : Go.Proofs.Lays.n156 Try.prog Try.lays156_ren := {
  mixed := by kernel_rfl
  f156 := Try.func58.trans (congrArg some (by kernel_rfl))
  f165 := Try.func66.trans (congrArg some (by kernel_rfl))
  f166 := Try.func67.trans (congrArg some (by kernel_rfl))
  f169 := Try.func68.trans (congrArg some (by kernel_rfl))
  f240 := Try.func73.trans (congrArg some (by kernel_rfl))
  f241 := Try.func74.trans (congrArg some (by kernel_rfl))
  f276 := Try.func87.trans (congrArg some (by kernel_rfl))
  f277 := Try.func88.trans (congrArg some (by kernel_rfl))
  t0 := Try.underlying0
  a0 := Try.isAgg0
  z0 := Try.sizeOf0
  v0 := Try.zeroValue0
  t3 := Try.underlying3
  a3 := Try.isAgg3
  z3 := Try.sizeOf3
  v3 := Try.zeroValue3
  t4 := Try.underlying4
  a4 := Try.isAgg4
  z4 := Try.sizeOf4
  v4 := Try.zeroValue4
  t9 := Try.underlying9
  a9 := Try.isAgg9
  z9 := Try.sizeOf9
  v9 := Try.zeroValue9
  t20 := Try.underlying20
  a20 := Try.isAgg20
  z20 := Try.sizeOf20
  v20 := Try.zeroValue20
  t31 := Try.underlying27
  a31 := Try.isAgg27
  z31 := Try.sizeOf27
  v31 := Try.zeroValue27
  t37 := Try.underlying48
  a37 := Try.isAgg48
  z37 := Try.sizeOf48
  v37 := Try.zeroValue48
  t70 := Try.underlying99
  a70 := Try.isAgg99
  z70 := Try.sizeOf99
  v70 := Try.zeroValue99
  t72 := Try.underlying101
  a72 := Try.isAgg101
  z72 := Try.sizeOf101
  v72 := Try.zeroValue101
  t75 := Try.underlying104
  a75 := Try.isAgg104
  z75 := Try.sizeOf104
  v75 := Try.zeroValue104
  t76 := Try.underlying105
  a76 := Try.isAgg105
  z76 := Try.sizeOf105
  v76 := Try.zeroValue105
  t127 := Try.underlying113
  a127 := Try.isAgg113
  z127 := Try.sizeOf113
  v127 := Try.zeroValue113
  t164 := Try.underlying128
  a164 := Try.isAgg128
  z164 := Try.sizeOf128
  v164 := Try.zeroValue128 }
theorem Try.Builder_Extra_156 : Builder.Extra Try.prog Try.lays156_ren := {
  sizeBuilder := by kernel_rfl
  liesBuilder := by kernel_rfl
  t5 := Try.underlying5
  a5 := Try.isAgg5
  z5 := Try.sizeOf5
  v5 := Try.zeroValue5
  infoByte := by kernel_rfl
  cellsByte := by kernel_rfl
  sizeByte := by kernel_rfl
  neB5 := by decide }
open Go.RowKit in
theorem Try.strings_Join_none (a : Option Addr) (c : Nat) (sep : ByteArray) (w : World) :
    Calls Try.prog 58 #[.slice a 0 c, .string sep] w fun e w' => e = .returned (.string ⟨#[]⟩) ∧ w' = w := Any.strings_Join_none Try.lays156 Try.Builder_Extra_156 a c sep w
open Go.RowKit in
theorem Try.strings_Join (bk o c : Nat) (xs : List ByteArray) (sep : ByteArray) (w : World) (hcells : ∀ (j : Nat) x, xs[j]? = some x → w.cell? ⟨bk, o + j, none⟩ = some (.string x)) (hbk : bk < w.heap.size) (hN : xs.length ≤ 140737488355328) (hcap : xs.length ≤ c) (hlen : (Lib.join (xs.map (·.data.toList)) sep.data.toList).length ≤ 140737488355328) :
    Calls Try.prog 58 #[.slice (some ⟨bk, o, none⟩) xs.length c, .string sep] w fun e w' => e = .returned (.string ⟨(Lib.join (xs.map (·.data.toList)) sep.data.toList).toArray⟩) ∧ Below w.heap.size w w' := Any.strings_Join Try.lays156 Try.Builder_Extra_156 bk o c xs sep w hcells hbk hN hcap hlen
def Try.lays189_ren : Go.Shelf.Ren := ⟨fun | 189 => 60 | 125 => 70 | 257 => 69 | 128 => 84 | 129 => 85 | 294 => 75 | 295 => 76 | 296 => 77 | 297 => 78 | 298 => 79 | 299 => 80 | 216 => 81 | 300 => 82 | 301 => 83 | 328 => 89 | 329 => 90 | 330 => 91 | 331 => 92 | 332 => 93 | 215 => 94 | 343 => 96 | n => n, fun | 28 => 45 | 3 => 3 | 46 => 110 | 0 => 0 | 51 => 124 | 53 => 126 | 4 => 4 | 183 => 116 | 182 => 115 | 131 => 121 | 5 => 5 | 9 => 9 | 218 => 131 | 222 => 135 | 228 => 139 | 229 => 140 | n => n, fun | n => n⟩
theorem Try.lays189 : Go.Proofs.Lays.n189 Try.prog Try.lays189_ren := {
  mixed := by kernel_rfl
  f125 := Try.func70.trans (congrArg some (by kernel_rfl))
  f128 := Try.func84.trans (congrArg some (by kernel_rfl))
  f129 := Try.func85.trans (congrArg some (by kernel_rfl))
  f189 := Try.func60.trans (congrArg some (by kernel_rfl))
  f215 := Try.func94.trans (congrArg some (by kernel_rfl))
  f216 := Try.func81.trans (congrArg some (by kernel_rfl))
  f257 := Try.func69.trans (congrArg some (by kernel_rfl))
  f294 := Try.func75.trans (congrArg some (by kernel_rfl))
  f295 := Try.func76.trans (congrArg some (by kernel_rfl))
  f296 := Try.func77.trans (congrArg some (by kernel_rfl))
  f297 := Try.func78.trans (congrArg some (by kernel_rfl))
  f298 := Try.func79.trans (congrArg some (by kernel_rfl))
  f299 := Try.func80.trans (congrArg some (by kernel_rfl))
  f300 := Try.func82.trans (congrArg some (by kernel_rfl))
  f301 := Try.func83.trans (congrArg some (by kernel_rfl))
  f328 := Try.func89.trans (congrArg some (by kernel_rfl))
  f329 := Try.func90.trans (congrArg some (by kernel_rfl))
  f330 := Try.func91.trans (congrArg some (by kernel_rfl))
  f331 := Try.func92.trans (congrArg some (by kernel_rfl))
  f332 := Try.func93.trans (congrArg some (by kernel_rfl))
  f343 := Try.func96.trans (congrArg some (by kernel_rfl))
  t0 := Try.underlying0
  a0 := Try.isAgg0
  z0 := Try.sizeOf0
  v0 := Try.zeroValue0
  t3 := Try.underlying3
  a3 := Try.isAgg3
  z3 := Try.sizeOf3
  v3 := Try.zeroValue3
  t4 := Try.underlying4
  a4 := Try.isAgg4
  z4 := Try.sizeOf4
  v4 := Try.zeroValue4
  t5 := Try.underlying5
  a5 := Try.isAgg5
  z5 := Try.sizeOf5
  v5 := Try.zeroValue5
  t9 := Try.underlying9
  a9 := Try.isAgg9
  z9 := Try.sizeOf9
  v9 := Try.zeroValue9
  t28 := Try.underlying45
  a28 := Try.isAgg45
  z28 := Try.sizeOf45
  v28 := Try.zeroValue45
  t46 := Try.underlying110
  a46 := Try.isAgg110
  z46 := Try.sizeOf110
  v46 := Try.zeroValue110
  t51 := Try.underlying124
  a51 := Try.isAgg124
  z51 := Try.sizeOf124
  v51 := Try.zeroValue124
  t53 := Try.underlying126
  a53 := Try.isAgg126
  z53 := Try.sizeOf126
  v53 := Try.zeroValue126
  t131 := Try.underlying121
  a131 := Try.isAgg121
  z131 := Try.sizeOf121
  v131 := Try.zeroValue121
  t182 := Try.underlying115
  a182 := Try.isAgg115
  z182 := Try.sizeOf115
  v182 := Try.zeroValue115
  t183 := Try.underlying116
  a183 := Try.isAgg116
  z183 := Try.sizeOf116
  v183 := Try.zeroValue116
  t218 := Try.underlying131
  a218 := Try.isAgg131
  z218 := Try.sizeOf131
  v218 := Try.zeroValue131
  t222 := Try.underlying135
  a222 := Try.isAgg135
  z222 := Try.sizeOf135
  v222 := Try.zeroValue135
  t228 := Try.underlying139
  a228 := Try.isAgg139
  z228 := Try.sizeOf139
  v228 := Try.zeroValue139
  t229 := Try.underlying140
  a229 := Try.isAgg140
  z229 := Try.sizeOf140
  v229 := Try.zeroValue140 }
open Go.Sort Go.RowKit in
theorem Try.slices_Sort_int (blk off cap : Nat) (zs : List Int) (w : World) (hH : Holds (Value.int .i64) w blk off zs.toArray) (hblk : blk < w.heap.size) (hsz : zs.length < 4611686018427387904) :
    Calls Try.prog 60 #[.slice (some ⟨blk, off, none⟩) zs.length cap] w fun e w' =>
      e = .returned (.tuple #[]) ∧ ∃ n os, w' = grow (putRow (Value.int .i64) (Sort.ahead w n) blk off (zs.mergeSort fun x y => decide (x ≤ y)).toArray) os := Any.slices_Sort_int Try.lays189 blk off cap zs w hH hblk hsz
def Try.laysNm220_ren : Go.Shelf.Ren := ⟨fun | 20 => 61 | n => n, fun | 22 => 45 | 3 => 3 | 4 => 4 | 0 => 0 | n => n, fun | n => n⟩
theorem Try.laysNm220 : Go.Proofs.Lays2.n20 Try.prog Try.laysNm220_ren := {
  mixed := by kernel_rfl
  f20 := Try.func61.trans (congrArg some (by kernel_rfl))
  t0 := Try.underlying0
  a0 := Try.isAgg0
  z0 := Try.sizeOf0
  v0 := Try.zeroValue0
  t3 := Try.underlying3
  a3 := Try.isAgg3
  z3 := Try.sizeOf3
  v3 := Try.zeroValue3
  t4 := Try.underlying4
  a4 := Try.isAgg4
  z4 := Try.sizeOf4
  v4 := Try.zeroValue4
  t22 := Try.underlying45
  a22 := Try.isAgg45
  z22 := Try.sizeOf45
  v22 := Try.zeroValue45
  i3 := by kernel_rfl }
open Go.RowKit Go.Lib Go.Sort in
theorem Try.slices_Compact_int (blk off cap : Nat) (zs : List Int) (w : World) (hH : Holds (Value.int .i64) w blk off zs.toArray) (hsz : zs.length ≤ 9223372036854775807) (hcap : zs.length ≤ cap) :
    Calls Try.prog 61 #[.slice (some ⟨blk, off, none⟩) zs.length cap] w fun e w' => e = .returned (.slice (some ⟨blk, off, none⟩) (Lib.compact zs).length cap) ∧ ∃ q, w' = putRow (Value.int .i64) (Sort.ahead w q) blk off (Lib.compact zs ++ List.replicate (zs.length - (Lib.compact zs).length) 0).toArray := Any.slices_Compact_int Try.laysNm220 blk off cap zs w hH hsz hcap
end Go.Proofs

/- cols.Devs: the devices of columns, rising, each once. -/
namespace Go.Proofs.Ytpalgadokdcgnaa
set_option maxRecDepth 100000
open Go.RowKit

theorem own_sort {w : World} {B g n cap : Nat} {zs : List Int} (hn : zs.length = n) (h : OwnI B w (.slice (some ⟨g, 0, none⟩) n cap) zs) (hl : n ≤ 4294967296) (hBw : B ≤ w.heap.size) :
    Calls Try.prog 60 #[.slice (some ⟨g, 0, none⟩) n cap] w fun e w' => e = .returned (.tuple #[]) ∧ OwnI B w' (.slice (some ⟨g, 0, none⟩) n cap) (zs.mergeSort fun x y => decide (x ≤ y)) ∧ Below B w w' := by
  subst hn
  rcases h.2 with ⟨h0, _⟩ | ⟨g', cap', cur, hv, hB, hb, h1, h2, h3, h4⟩
  · cases h0
  cases hv
  refine (Try.slices_Sort_int g 0 cap zs w (holds_of_blockI hb (by simpa using h4)) (Array.getElem?_eq_some_iff.1 hb).1 (by omega)).mono ?_
  rintro e w' ⟨rfl, n, os, rfl⟩
  have hml : (zs.mergeSort fun x y => decide (x ≤ y)).length = zs.length := by simp
  refine ⟨rfl, ?_, ?_⟩
  · have := ownsRow_sortedI (n := n) (os := os) (base := B) (ss := zs) (ts := zs.mergeSort fun x y => decide (x ≤ y)) hml hB hb h1 h2 h3
    unfold OwnI
    rw [hml]
    exact this
  · exact (Below.refl _ w).grown (grownBy_sortedI _) hBw (fun j hj => by cases hj; exact hB)
theorem own_compact {w : World} {B g n cap : Nat} {zs : List Int} (hn : zs.length = n) (h : OwnI B w (.slice (some ⟨g, 0, none⟩) n cap) zs) (hl : n ≤ 4294967296) (hBw : B ≤ w.heap.size) (D : List Int) (hD : Lib.compact zs = D) (hDn : D.length ≤ n) :
    Calls Try.prog 61 #[.slice (some ⟨g, 0, none⟩) n cap] w fun e w' => e = .returned (.slice (some ⟨g, 0, none⟩) D.length cap) ∧ IntsV w' (.slice (some ⟨g, 0, none⟩) D.length cap) D ∧ Below B w w' := by
  subst hn
  rcases h.2 with ⟨h0, _⟩ | ⟨g', cap', cur, hv, hB, hb, h1, h2, h3, h4⟩
  · cases h0
  cases hv
  have hH := holds_of_blockI hb (by simpa using h4)
  refine (Try.slices_Compact_int g 0 cap zs w hH (by omega) h1).mono ?_
  rintro e w' ⟨rfl, q, rfl⟩
  rw [hD]
  have hg := grownBy_sortedI (w := w) (g := g) (n := q) (os := #[]) (D ++ List.replicate (zs.length - D.length) 0).toArray
  rw [Sort.grow_empty] at hg
  refine ⟨rfl, ⟨_, _, _, rfl, rfl, by omega, fun j hj => ⟨g, rfl, ?_, ?_⟩⟩, (Below.refl _ w).grown hg hBw (fun j hj => by cases hj; exact hB)⟩
  · rw [Sort.size_putRow]; exact (Array.getElem?_eq_some_iff.1 hb).1
  · have := Sort.cell?_putRow (Value.int .i64) (Sort.ahead w q) g 0 zs.toArray (D ++ List.replicate (zs.length - D.length) 0).toArray (Sort.holds_ahead _ _ _ _ _ _ hH) (by simp; omega) j (by simp; omega)
    rw [Nat.zero_add] at this
    rw [this]
    congr 2
    rw [getElem!_pos _ j (by simp; omega)]
    simp [List.getElem_append_left hj]

set_option maxHeartbeats 1000000 in
theorem devs_cols (w : World) (v : Value) (L : List C) (hV : ColsV w v L) (h0 : 0 < L.length) (hl : L.length ≤ 100000) (D : List Int) (hD : devsS (L.map C.dev) = D) :
    Calls Try.prog 50 #[v] w fun e w' => ∃ v', e = .returned v' ∧ IntsV w' v' D ∧ Below w.heap.size w w' := by
  obtain ⟨g, n, c, rfl, hn, hlt, hC⟩ := hV.some h0
  rw [hn] at h0 hl
  have HN := Lib.hid hn
  have HC := Lib.hid hC
  have HD := Lib.hid hD
  clear hV hn hC hD
  go_enter Try.func50, Try.ntmps50
  go_wp2_with fail
  go_loopw [3, 8] (fun t3 i8 wr => ∃ j : Nat, j ≤ n ∧ i8 = .int .i64 (j : Int) ∧ Hid (OwnI w.heap.size wr t3 ((L.take j).map C.dev)) ∧ Hid (Below w.heap.size w wr)) (fun _ i _ => n - (intOf i).toNat)
  case atStart => exact ⟨0, Nat.zero_le _, rfl, Lib.hid (OwnI.nil _ _), Lib.hid (Below.refl _ _)⟩
  case round =>
    obtain ⟨j, hj, rfl, HO, HW⟩ := hrel
    have hsz := HW.out.size
    by_cases hjn : j < n
    · have hjl : j < L.length := by rw [HN.out]; exact hjn
      obtain ⟨x, hx⟩ : ∃ x, L[j] = x := ⟨_, rfl⟩
      have hCx := (HC.out j hjl).below hlt HW.out
      rw [hx] at hCx
      obtain ⟨e0, e1, e2, e3⟩ := hCx
      have HT : Hid ((L.take (j + 1)).map C.dev = (L.take j).map C.dev ++ [x.dev]) := Lib.hid (by rw [List.take_add_one, List.getElem?_eq_getElem hjl, hx, List.map_append]; rfl)
      have HLE : Hid (((L.take j).map C.dev).length ≤ 100000) := Lib.hid (by rw [List.length_map, List.length_take]; omega)
      clear hx hjl
      go_wp2_with (first | (at_builtin; refine wpList_append_int _ rfl _ _ rfl w.heap.size _ _ x.dev (wr.heap.size + 1) 1 rfl rfl ((HO.out.below (boxed _ _)).below (boxed _ _)) (by simp) (by simp; omega) HLE.out ?_; intro v3 w3 hown3 hb3 hs3))
      go_roundw
      case rel => exact ⟨j + 1, by omega, by go_num, Lib.hid (by rw [HT.out]; exact hown3), Lib.hid ((grows_alloc (grows_alloc HW.out _) _).trans hb3)⟩
      case measure => simp [intOf]; omega
    · obtain rfl : j = n := by omega
      have hown := HO.out
      rw [List.take_of_length_le (by rw [HN.out]; exact Nat.le_refl _)] at hown
      obtain ⟨ga, ca, rfl⟩ : ∃ ga ca, u3 = .slice (some ⟨ga, 0, none⟩) j ca := by
        rcases hown.2 with ⟨_, h1⟩ | ⟨ga, ca, _, hv, _⟩
        · rw [List.length_map, HN.out] at h1; omega
        · exact ⟨ga, ca, by rw [hv, List.length_map, HN.out]⟩
      have HOW := Lib.hid hown
      have HLN : Hid ((L.map C.dev).length = j) := Lib.hid (by rw [List.length_map]; exact HN.out)
      clear hown HO
      go_wp2_with fail
      refine (own_sort HLN.out HOW.out (by omega) hsz).mono ?_
      rintro e w4 ⟨rfl, ho4, b4⟩
      have HO4 := Lib.hid ho4
      have HB4 := Lib.hid b4
      have HL4 : Hid (((L.map C.dev).mergeSort fun x y => decide (x ≤ y)).length = j) := Lib.hid (by rw [List.length_mergeSort]; exact HLN.out)
      clear ho4 b4
      go_wp2_with fail
      refine (own_compact HL4.out HO4.out (by omega) (Nat.le_trans hsz HB4.out.size) D HD.out (by rw [← HD.out, ← HLN.out]; exact devsS_le _)).mono ?_
      rintro e w5 ⟨rfl, hI, b5⟩
      go_wp2
      go_ret
      exact ⟨_, rfl, hI, (HW.out.trans HB4.out).trans b5⟩
end Go.Proofs.Ytpalgadokdcgnaa

/- par.Even, par.Blank, polderlaw03.few: what they answer. -/
namespace Go.Proofs.Ytpalgadokdcgnaa
set_option maxRecDepth 100000
open Go.RowKit M

/-- The closure of Even: is a text of another length than the first? -/
theorem epred_any (s s0 : ByteArray) (B g o n c : Nat) (w : World) (hB : w.cell? ⟨B, 0, none⟩ = some (.slice (some ⟨g, o, none⟩) n c)) (hn : 0 < n) (hc : w.cell? ⟨g, o, none⟩ = some (.string s0)) (b : Bool) (hb : ((s.size : Int) != (s0.size : Int)) = b) :
    Calls Try.prog 53 #[.string s, .pointer (some ⟨B, 0, none⟩)] w fun e w' => e = .returned (.bool b) ∧ w = w' := by
  go_enter Try.func53, Try.ntmps53
  go_wp2
  go_ret
  exact ⟨rfl, rfl⟩

/-- All that were looked at are as long as the first. -/
def sameTo (l : List ByteArray) (k : Nat) : Prop := ∀ j (h : j < l.length), j < k → l[j].size = wide l
theorem wide_at0 {l : List ByteArray} (h : 0 < l.length) : l[0].size = wide l := by
  cases l with
  | nil => exact absurd h (Nat.not_lt_zero _)
  | cons s r => rfl
theorem sameTo_all {l : List ByteArray} (h : sameTo l l.length) : evenL l = true := by
  rw [even_iff]
  intro s hs
  obtain ⟨j, hj, rfl⟩ := List.getElem_of_mem hs
  exact h j hj hj
theorem sameTo_not {l : List ByteArray} {k : Nat} (hk : k < l.length) (h : l[k].size ≠ wide l) : evenL l = false := by
  cases e : evenL l with
  | false => rfl
  | true => exact absurd (even_iff.1 e _ (List.getElem_mem hk)) h

set_option maxHeartbeats 1000000 in
theorem eindex_any (l : List ByteArray) (B g o c : Nat) (w : World) (hl : 0 < l.length) (hm : l.length ≤ maxLen) (hcc : l.length ≤ c)
    (hB : w.cell? ⟨B, 0, none⟩ = some (.slice (some ⟨g, o, none⟩) l.length c)) (hc : ∀ j (h : j < l.length), w.cell? ⟨g, o + j, none⟩ = some (.string l[j])) :
    Calls Try.prog 56 #[.slice (some ⟨g, o, none⟩) l.length c, .func (.func 53) #[] #[.pointer (some ⟨B, 0, none⟩)]] w fun e w' =>
      ∃ k : Int, e = .returned (.int .i64 k) ∧ (evenL l = true → k = -1) ∧ (evenL l = false → 0 ≤ k) ∧ w = w' := by
  unfold maxLen at hm
  have hc0 := hc 0 hl
  rw [Nat.add_zero] at hc0
  have hw := wide_at0 hl
  generalize hs0 : l[0] = s0 at hc0 hw
  clear hs0
  have HC := Lib.hid hc
  have HW := Lib.hid hw
  clear hc hw
  generalize hn : l.length = n at hl hm hcc hB
  have HN := Lib.hid hn
  clear hn
  go_enter Try.func56, Try.ntmps56
  go_wp2_with fail
  go_loop [8] (fun i => ∃ k : Nat, k ≤ n ∧ i = .int .i64 k ∧ Hid (sameTo l k)) (fun i => n - (intOf i).toNat)
  case atStart => exact ⟨0, Nat.zero_le _, rfl, Lib.hid fun j _ hj => absurd hj (Nat.not_lt_zero _)⟩
  case round =>
    obtain ⟨k, hk, rfl, H⟩ := hrel
    by_cases hlt : k < n
    · have hlt' : k < l.length := by rw [HN.out]; exact hlt
      have hck := HC.out k hlt'
      generalize hs : l[k] = s at hck
      have HS : Hid (∃ h : k < l.length, l[k] = s) := Lib.hid ⟨hlt', hs⟩
      clear hs hlt'
      by_cases hz : s.size = s0.size
      · have hz' : ((s.size : Int) != (s0.size : Int)) = false := by rw [hz]; simp
        have HZ := Lib.hid hz
        have HZ' := Lib.hid hz'
        clear hz hz'
        go_wp2_with fail
        refine (epred_any s s0 B g o n c _ hB hl hc0 false HZ'.out).mono ?_
        rintro e w1 ⟨rfl, rfl⟩
        go_wp2
        go_round
        case rel =>
          refine ⟨k + 1, by omega, by go_num, Lib.hid fun j hj hjk => ?_⟩
          by_cases e : j = k
          · subst e
            obtain ⟨_, hs⟩ := HS.out
            rw [hs, HZ.out, HW.out]
          · exact H.out j hj (by omega)
        case measure => simp [intOf]; omega
      · have hz' : ((s.size : Int) != (s0.size : Int)) = true := by rw [bne_iff_ne]; omega
        have HZ := Lib.hid hz
        have HZ' := Lib.hid hz'
        clear hz hz'
        go_wp2_with fail
        refine (epred_any s s0 B g o n c _ hB hl hc0 true HZ'.out).mono ?_
        rintro e w1 ⟨rfl, rfl⟩
        go_wp2
        go_ret
        have hno : evenL l = false := by
          obtain ⟨hk', hs⟩ := HS.out
          exact sameTo_not hk' (by rw [hs, ← HW.out]; exact HZ.out)
        exact ⟨k, rfl, fun h => by (rw [hno] at h; cases h), fun _ => by omega, rfl⟩
    · go_wp2
      go_ret
      have hyes : evenL l = true := sameTo_all (by
        obtain rfl : k = n := by omega
        rw [HN.out]; exact H.out)
      exact ⟨-1, rfl, fun _ => rfl, fun h => by (rw [hyes] at h; cases h), rfl⟩

theorem econtains_any (l : List ByteArray) (B g o c : Nat) (w : World) (hl : 0 < l.length) (hm : l.length ≤ maxLen) (hcc : l.length ≤ c)
    (hB : w.cell? ⟨B, 0, none⟩ = some (.slice (some ⟨g, o, none⟩) l.length c)) (hc : ∀ j (h : j < l.length), w.cell? ⟨g, o + j, none⟩ = some (.string l[j])) (b : Bool) (hb : evenL l = b) :
    Calls Try.prog 43 #[.slice (some ⟨g, o, none⟩) l.length c, .func (.func 53) #[] #[.pointer (some ⟨B, 0, none⟩)]] w fun e w' => e = .returned (.bool (!b)) ∧ w = w' := by
  have hI := Lib.hid (eindex_any l B g o c w hl hm hcc hB hc)
  clear hB hc hcc hm
  have HB := Lib.hid hb
  clear hb
  go_enter Try.func43, Try.ntmps43
  go_wp2_with fail
  refine hI.out.mono ?_
  rintro e w1 ⟨k, rfl, h1, h2, rfl⟩
  rw [HB.out] at h1 h2
  cases b with
  | true =>
    obtain rfl := h1 rfl
    go_wp2
    go_ret
    exact ⟨rfl, rfl⟩
  | false =>
    have hk := h2 rfl
    clear h1 h2
    go_wp2
    go_ret
    exact ⟨rfl, rfl⟩
theorem even_any (l : List ByteArray) (v : Value) (w : World) (h : Txt w v l) (hm : l.length ≤ maxLen) (b : Bool) (hb : evenL l = b) :
    Calls Try.prog 38 #[v] w fun e w' => e = .returned (.bool b) ∧ Below w.heap.size w w' := by
  by_cases hl : 0 < l.length
  · obtain ⟨g, o, c, rfl, hcc, hg, hc⟩ := h.isSome hl
    have HC := Lib.hid hc
    have HB := Lib.hid hb
    clear hc hb h
    go_enter Try.func38, Try.ntmps38
    go_wp2_with fail
    refine (econtains_any l w.heap.size g o c _ hl hm hcc (by simp) (fun j hj => ?_) b HB.out).mono ?_
    · rw [((Below.refl _ w).alloc (Nat.le_refl _) _).cell (p := ⟨g, o + j, none⟩) hg]; exact HC.out j hj
    rintro e w1 ⟨rfl, rfl⟩
    go_wp2
    go_ret
    exact ⟨by simp, (Below.refl _ w).alloc (Nat.le_refl _) _⟩
  · obtain rfl : l = [] := List.eq_nil_of_length_eq_zero (by omega)
    obtain ⟨a, c, rfl⟩ := h.isNone
    obtain rfl : true = b := hb
    clear h hl hm
    go_enter Try.func38, Try.ntmps38
    go_wp2_with go_in
    refine wp_loop_rounds 1 ?_
    rw [rounds_succ]
    go_wp2
    go_ret
    exact ⟨rfl, (Below.refl _ w).alloc (Nat.le_refl _) _⟩
end Go.Proofs.Ytpalgadokdcgnaa

/- par.Blank, the document's Zeros and Even, polderlaw03.few: what they answer. -/
namespace Go.Proofs.Ytpalgadokdcgnaa
set_option maxRecDepth 100000
open Go.RowKit M

theorem take_snoc (s : ByteArray) (k : Nat) (h : k < s.size) : s.data.toList.take (k + 1) = s.data.toList.take k ++ [s[k]] := by
  rw [List.take_succ_eq_append_getElem (by simpa using h)]; rfl
theorem blank_no (s : ByteArray) (k : Nat) (h : k < s.size) (hz : s[k] ≠ 0) : blankB s = false := by
  cases e : blankB s with
  | false => rfl
  | true =>
    rw [blankB, List.all_eq_true] at e
    have := e s[k] (by simp [ByteArray.getElem_eq_getElem_data])
    exact absurd (by simpa using this) hz

/-- What few adds up. -/
def fewN (l : List ByteArray) : Nat := (l.map fun s => min s.size 10000).sum
def fewL (l : List ByteArray) : Bool := decide (l.length < 30) && decide (fewN (l.take 30) ≤ 4000)
theorem few_short {l : List ByteArray} (h : fewL l = true) : l.length < 30 ∧ ∀ s ∈ l, s.size ≤ 4000 := by
  simp only [fewL, Bool.and_eq_true, decide_eq_true_eq] at h
  obtain ⟨h1, h2⟩ := h
  refine ⟨h1, fun s hs => ?_⟩
  rw [List.take_of_length_le (by omega)] at h2
  clear h1
  unfold fewN at h2
  induction l with
  | nil => cases hs
  | cons t r ih =>
    simp only [List.map_cons, List.sum_cons] at h2
    rcases List.mem_cons.1 hs with rfl | hs
    · omega
    · exact ih (by omega) hs
theorem fewN_snoc (l : List ByteArray) (k : Nat) (h : k < l.length) : fewN (l.take (k + 1)) = fewN (l.take k) + min l[k].size 10000 := by
  unfold fewN
  rw [List.take_succ_eq_append_getElem h, List.map_append, List.sum_append]
  simp only [List.map_cons, List.map_nil, List.sum_cons, List.sum_nil, Nat.add_zero]
theorem fewN_le (l : List ByteArray) (k : Nat) (hk : k ≤ 30) : fewN (l.take k) ≤ 300000 := by
  have : ∀ m : List ByteArray, fewN m ≤ 10000 * m.length := by
    intro m
    unfold fewN
    induction m with
    | nil => simp
    | cons t r ih => simp only [List.map_cons, List.sum_cons, List.length_cons]; omega
  have h2 := this (l.take k)
  rw [List.length_take] at h2
  omega

end Go.Proofs.Ytpalgadokdcgnaa

/- par.mix, par.Make: what they answer. -/
namespace Go.Proofs.Ytpalgadokdcgnaa
set_option maxRecDepth 100000
open Go.RowKit M

/-- The first k bytes made one with another text's. -/
def mixTo (p : List UInt8) (s : ByteArray) (k : Nat) : List UInt8 := List.zipWith (· ^^^ ·) (p.take k) (s.data.toList.take k) ++ p.drop k
theorem mixTo_zero (p : List UInt8) (s : ByteArray) : mixTo p s 0 = p := by simp [mixTo]
theorem mixTo_all (p : List UInt8) (s : ByteArray) (h : p.length = s.size) : mixTo p s p.length = List.zipWith (· ^^^ ·) p s.data.toList := by
  rw [mixTo, List.take_length, List.drop_length, List.append_nil, List.take_of_length_le (by rw [← sizeL]; omega)]
theorem mixTo_length (p : List UInt8) (s : ByteArray) (h : p.length = s.size) (k : Nat) : (mixTo p s k).length = p.length := by
  rw [sizeL] at h
  simp [mixTo] at h ⊢
  omega
theorem mixTo_at (p : List UInt8) (s : ByteArray) (h : p.length = s.size) (k : Nat) (hk : k < p.length) (h' : k < (mixTo p s k).length) : (mixTo p s k)[k] = p[k] := by
  have hs : s.data.toList.length = p.length := by rw [← sizeL]; exact h.symm
  simp only [mixTo]
  rw [List.getElem_append_right (by simp [hs]; omega)]
  simp only [List.length_zipWith, List.length_take, hs, List.getElem_drop]
  congr 1
  omega
theorem mixTo_next (p : List UInt8) (s : ByteArray) (h : p.length = s.size) (k : Nat) (hk : k < p.length) (hs : k < s.size) : (mixTo p s k).set k (p[k] ^^^ s[k]) = mixTo p s (k + 1) := by
  have hl : s.data.toList.length = p.length := by rw [← sizeL]; exact h.symm
  have hz : (List.zipWith (· ^^^ ·) (p.take k) (s.data.toList.take k)).length = k := by simp [hl]; omega
  unfold mixTo
  rw [List.set_append, if_neg (by omega), hz, Nat.sub_self, List.drop_eq_getElem_cons hk, List.set_cons_zero, List.take_succ_eq_append_getElem hk,
    List.take_succ_eq_append_getElem (l := s.data.toList) (by omega), List.zipWith_append (by simp [hl]), List.append_assoc]
  rfl
theorem xor_bits (a b : UInt8) : bits BinOp.xor IntKind.u8 (a.toNat : Int) (b.toNat : Int) = ((a ^^^ b).toNat : Int) := by
  rw [u8_xor_nat _ _ (UInt8.toNat_lt a) (UInt8.toNat_lt b), UInt8.toNat_xor]

set_option maxHeartbeats 1000000 in
theorem mix_any (p : List UInt8) (s : ByteArray) (g c n : Nat) (w : World) (B : Nat) (h : RowB w g p) (hB : B ≤ g) (hp : p.length = s.size) (hm : s.size ≤ maxLen) (hn : s.size = n) :
    Calls Try.prog 39 #[.slice (some ⟨g, 0, none⟩) n c, .string s] w fun e w' => e = .returned (.tuple #[]) ∧ RowB w' g (List.zipWith (· ^^^ ·) p s.data.toList) ∧ Below B w w' := by
  unfold maxLen at hm
  subst hn
  have HP := Lib.hid hp
  have HR := Lib.hid h
  clear h hp
  go_enter Try.func39, Try.ntmps39
  go_wp2_with fail
  go_loopw [7] (fun i wx => ∃ k : Nat, k ≤ s.size ∧ i = .int .i64 k ∧ RowB wx g (mixTo p s k) ∧ Below B w wx) (fun i _ => s.size - (intOf i).toNat)
  case atStart => exact ⟨0, Nat.zero_le _, rfl, by rw [mixTo_zero]; exact HR.out, Below.refl _ _⟩
  case round =>
    obtain ⟨k, hk, rfl, hr, hb⟩ := hrel
    by_cases hlt : k < s.size
    · have hlp : k < p.length := by rw [HP.out]; exact hlt
      have hml : k < (mixTo p s k).length := by rw [mixTo_length p s HP.out]; exact hlp
      have hck := hr.c k hml
      rw [mixTo_at p s HP.out k hlp hml] at hck
      have hfk := hr.f k hml
      have hx := xor_bits p[k] s[k]
      have hnx := RowB.set hr k hml (p[k] ^^^ s[k])
      rw [mixTo_next p s HP.out k hlp hlt] at hnx
      have HX := Lib.hid hnx
      generalize p[k] ^^^ s[k] = v at hx hnx HX
      generalize p[k] = u at hck hx
      clear hr hnx hlp hml
      have a1 : ((k : Int)).toNat = k := by omega
      go_wp2_with fail
      refine wp_region_still_tail 9 (by kernel_rfl) (by kernel_rfl) ?_
      simp only [List.take_succ_cons, List.take_zero, List.drop_succ_cons, List.drop_zero]
      repeat still_step
      refine wpStill_nil ?_
      go_wp2
      go_round
      case rel => exact ⟨k + 1, by omega, by go_num, HX.out.below (Below.refl _ _).drew HX.out.lt, (hb.setCell (p := ⟨g, k, none⟩) hB _).drew⟩
      case measure => simp [intOf]; omega
    · go_wp2
      go_end0
      obtain rfl : k = s.size := by omega
      refine ⟨rfl, ?_, hb⟩
      rw [← HP.out, mixTo_all p s HP.out] at hr
      exact hr

theorem ok_even {l : List ByteArray} (hl : 0 < l.length) : okL l = evenL l := by
  cases l with
  | nil => exact absurd hl (Nat.not_lt_zero _)
  | cons s r => simp [okL]

theorem even_cons {s0 : ByteArray} {r : List ByteArray} (he : ∀ s ∈ r, s.size = s0.size) : evenL (s0 :: r) = true := even_of (n := s0.size) fun s hs => by
  rcases List.mem_cons.1 hs with rfl | hs
  · rfl
  · exact he s hs

set_option maxHeartbeats 1000000 in
theorem make_ok (s0 : ByteArray) (r : List ByteArray) (g o c n : Nat) (w : World) (hn : (s0 :: r).length = n) (hcc : n ≤ c) (hg : g < w.heap.size) (hm : n ≤ maxLen) (hz : s0.size ≤ maxLen) (he : ∀ s ∈ r, s.size = s0.size)
    (hc : ∀ j (h : j < (s0 :: r).length), w.cell? ⟨g, o + j, none⟩ = some (.string (s0 :: r)[j])) :
    Calls Try.prog 24 #[.slice (some ⟨g, o, none⟩) n c] w fun e w' => e = .returned (.tuple #[.string (parB (s0 :: r)), .int .i64 0]) ∧ Below w.heap.size w w' := by
  have HT : Hid (Txt w (.slice (some ⟨g, o, none⟩) n c) (s0 :: r)) := Lib.hid (by subst hn; exact Txt.mk hcc hg hc)
  have HM : Hid ((s0 :: r).length ≤ maxLen) := Lib.hid (by rw [hn]; exact hm)
  have HE := Lib.hid he
  have HN : Hid (n = r.length + 1) := Lib.hid (by rw [← hn]; rfl)
  have hn1 : 1 ≤ n := by have := HN.out; omega
  have hn0 : ((n : Int) == 0) = false := by rw [beq_eq_false_iff_ne]; omega
  have HC := Lib.hid hc
  have HZ := Lib.hid hz
  unfold maxLen at hm
  clear he hn hc hz
  go_enter Try.func24, Try.ntmps24
  go_wp2_with fail
  refine (even_any _ _ _ HT.out HM.out true (even_cons HE.out)).mono ?_
  rintro e w1 ⟨rfl, b1⟩
  have HC1 : Hid (∀ j (h : j < (s0 :: r).length), w1.cell? ⟨g, o + j, none⟩ = some (.string (s0 :: r)[j])) := Lib.hid fun j hj => by
    rw [b1.cell (p := ⟨g, o + j, none⟩) hg]; exact HC.out j hj
  have hc0 : w1.cell? ⟨g, o, none⟩ = some (.string s0) := HC1.out 0 (by simp)
  have hcv := conv_to w1 s0
  have HR0 := Lib.hid (bytesW_row w1 s0)
  have hb0 := bytesW_below w1 s0
  have hg1 : g < w1.heap.size := Nat.lt_of_lt_of_le hg b1.size
  have hB1 : w.heap.size ≤ w1.heap.size := b1.size
  have hbb := early2 b1 hb0
  clear HC HT
  generalize hgx : grownCap w1 s0.size 0 5 = gc at hcv
  generalize hwx : bytesW w1 s0 = wx at hcv HR0 hb0 hbb
  clear hgx hwx
  by_cases hc1 : c = 1
  · obtain rfl : n = 1 := by omega
    subst hc1
    obtain rfl : r = [] := List.eq_nil_of_length_eq_zero (by have := HN.out; omega)
    have hcf := conv_from wx w1.heap.size _ HR0.out s0.size gc (sizeL s0)
    rw [show (⟨s0.data.toList.toArray⟩ : ByteArray) = s0 from by cases s0; rfl] at hcf
    go_wp2_with fail
    refine wp_loop_rounds 1 ?_
    rw [rounds_succ]
    go_wp2
    go_ret2
    exact ⟨by rw [par_single]; rfl, hbb⟩
  · go_wp2_with fail
    go_loopw [22] (fun i wr => ∃ k : Nat, k ≤ n - 1 ∧ i = .int .i64 k ∧ RowB wr w1.heap.size (parL ((s0 :: r).take (k + 1)) s0.size) ∧ Below w1.heap.size w1 wr) (fun i _ => n - 1 - (intOf i).toNat)
    case atStart =>
      refine ⟨0, Nat.zero_le _, rfl, ?_, hb0⟩
      rw [List.take_succ_cons, List.take_zero, parL_first]
      exact HR0.out
    case round =>
      obtain ⟨k, hk, rfl, hr, hb⟩ := hrel
      by_cases hlt : k < n - 1
      · have hkl : k < r.length := by have := HN.out; omega
        have hck : wr.cell? ⟨g, o + 1 + k, none⟩ = some (.string r[k]) := by
          rw [hb.cell (p := ⟨g, o + 1 + k, none⟩) hg1]
          have := HC1.out (k + 1) (by simp; omega)
          rw [show o + 1 + k = o + (k + 1) by omega]
          simpa using this
        have hsz := HE.out _ (List.getElem_mem hkl)
        have hmo := parL_more ((s0 :: r).take (k + 1)) r[k]
        rw [show (s0 :: r).take (k + 1) ++ [r[k]] = (s0 :: r).take (k + 1 + 1) by
          rw [List.take_succ_cons, List.take_succ_cons, List.cons_append, List.take_succ_eq_append_getElem hkl]] at hmo
        generalize r[k] = sk at hck hsz hmo
        have HS := Lib.hid hsz
        rw [hsz] at hmo
        have HMO := Lib.hid hmo
        have HR := Lib.hid hr
        clear hsz hmo hr
        go_wp2_with fail
        refine (mix_any _ sk w1.heap.size gc s0.size _ w1.heap.size HR.out (Nat.le_refl _) (by rw [parL_length, HS.out]) (by rw [HS.out]; exact HZ.out) HS.out).mono ?_
        rintro e w2 ⟨rfl, h2, b2⟩
        rw [HMO.out] at h2
        go_wp2
        go_round
        case rel => exact ⟨k + 1, by omega, by go_num, h2, hb.trans b2⟩
        case measure => simp [intOf]; omega
      · obtain rfl : k = n - 1 := by omega
        have hcf := conv_from wr w1.heap.size _ hr s0.size gc (by rw [parL_length])
        rw [List.take_of_length_le (by rw [List.length_cons]; have := HN.out; omega)] at hcf
        go_wp2
        go_ret2
        exact ⟨rfl, early2 b1 hb⟩
theorem make_any (l : List ByteArray) (v : Value) (w : World) (h : Txt w v l) (hm : l.length ≤ maxLen) (hz : ∀ s ∈ l, s.size ≤ maxLen) :
    Calls Try.prog 24 #[v] w fun e w' => e = .returned (.tuple #[.string (mkB l), .int .i64 (mkE l)]) ∧ Below w.heap.size w w' := by
  cases l with
  | nil =>
    obtain ⟨a, c, rfl⟩ := h.isNone
    obtain ⟨h1, h2⟩ := mk_no (l := []) rfl
    rw [h1, h2]
    clear h hm hz h1 h2
    go_enter Try.func24, Try.ntmps24
    go_wp2
    go_ret2
    exact ⟨rfl, Below.refl _ _⟩
  | cons s0 r =>
    have hev := ok_even (l := s0 :: r) (by simp)
    cases hb : evenL (s0 :: r) with
    | false =>
      obtain ⟨h1, h2⟩ := mk_no (hev.trans hb)
      rw [h1, h2]
      have HB := Lib.hid hb
      have HT := Lib.hid h
      have HM := Lib.hid hm
      obtain ⟨g, o, c, rfl, hcc, hg, hc⟩ := h.isSome (by simp)
      unfold maxLen at hm
      have hn1 : 1 ≤ (s0 :: r).length := by simp
      generalize hn : (s0 :: r).length = n at hn1 hm hcc HT
      clear hb h hev h1 h2 hc hz hn
      go_enter Try.func24, Try.ntmps24
      go_wp2_with fail
      refine (even_any _ _ _ HT.out HM.out false HB.out).mono ?_
      rintro e w1 ⟨rfl, b1⟩
      go_wp2
      go_ret2
      exact ⟨rfl, b1⟩
    | true =>
      obtain ⟨h1, h2⟩ := mk_ok (hev.trans hb)
      rw [h1, h2]
      obtain ⟨g, o, c, rfl, hcc, hg, hc⟩ := h.isSome (by simp)
      exact make_ok s0 r g o c _ w rfl hcc hg hm (hz s0 (List.mem_cons_self ..)) (fun s hs => even_iff.1 hb s (List.mem_cons_of_mem _ hs)) hc
end Go.Proofs.Ytpalgadokdcgnaa

/- polderlaw03.awake, par.Right: what they answer. -/
namespace Go.Proofs.Ytpalgadokdcgnaa
set_option maxRecDepth 100000
open Go.RowKit M

/-- How two texts are compared. -/
theorem eq_txt (p q : ByteArray) : (p.toList == q.toList) = decide (p = q) := by
  by_cases h : p = q
  · subst h; simp
  · have : p.toList ≠ q.toList := by
      rw [ByteArray.toList_eq, ByteArray.toList_eq]
      exact fun e => h (extL e)
    rw [decide_eq_false h]
    exact beq_eq_false_iff_ne.2 this

theorem pright_any (p : ByteArray) (l : List ByteArray) (v : Value) (w : World) (h : Txt w v l) (hm : l.length ≤ maxLen) (hz : ∀ s ∈ l, s.size ≤ maxLen) (b : Bool) (hb : (okL l && decide (p = parB l)) = b) :
    Calls Try.prog 21 #[.string p, v] w fun e w' => e = .returned (.bool b) ∧ Below w.heap.size w w' := by
  have HM := Lib.hid (make_any l v w h hm hz)
  have HB := Lib.hid hb
  clear h hm hz hb
  go_enter Try.func21, Try.ntmps21
  go_wp2_with fail
  refine HM.out.mono ?_
  rintro e w1 ⟨rfl, b1⟩
  cases ho : okL l with
  | true =>
    obtain ⟨h1, h2⟩ := mk_ok ho
    rw [h1, h2]
    have hb' := HB.out
    rw [ho] at hb'
    generalize parB l = q at hb' ⊢
    clear h1 h2 ho HM HB
    go_wp2
    go_ret
    exact ⟨by rw [← hb', Bool.true_and, ← eq_txt]; rfl, b1⟩
  | false =>
    obtain ⟨h1, h2⟩ := mk_no ho
    rw [h1, h2]
    have hb' := HB.out
    rw [ho] at hb'
    obtain rfl : false = b := hb'
    clear h1 h2 ho HM HB
    go_wp2
    go_ret
    exact ⟨rfl, b1⟩
end Go.Proofs.Ytpalgadokdcgnaa

/- A text of zero bytes, made. -/
namespace Go.Proofs.Ytpalgadokdcgnaa
set_option maxRecDepth 100000
open Go.RowKit M

theorem info_u8 : ∃ i, Try.prog.info? 5 = some i ∧ i.zero = some (.int .u8 0) ∧ i.size = 1 ∧ i.bytes = 1 := info_parts (by kernel_rfl)
/-- The world behind make([]byte, n). -/
def zerosW (w : World) (n : Nat) : World := w.alloc (.cells (madeCells #[.int .u8 0] n) 5)
theorem make_zeros (w : World) (n : Nat) (hn : n ≤ 4294967296) : (Instr.makeSlice 48 (.int .i64 n) (.int .i64 n)).run Try.prog w = .ok (.slice (some ⟨w.heap.size, 0, none⟩) n n) (zerosW w n) := by
  obtain ⟨i, hi, hz, hs, hb⟩ := info_u8
  have := run_make (P := Try.prog) w 48 5 i (.int .u8 0) Try.underlying48 hi hz .i64 .i64 n n (by omega) (by omega) (by rw [hb]; omega) (by omega)
  rw [this, hs, Nat.mul_one]
  rfl
theorem zerosW_row (w : World) (n : Nat) : RowB (zerosW w n) w.heap.size (List.replicate n 0) := by
  have hh : (zerosW w n).heap[w.heap.size]? = some (.cells (madeCells #[.int .u8 0] n) 5) := heap_alloc_new w _
  refine ⟨fun j hj => ?_, fun j hj => ?_, by simp [zerosW]⟩
  · rw [List.length_replicate] at hj
    have : (madeCells #[Value.int .u8 0] n)[j]? = some (.int .u8 0) := by
      simp [madeCells, hj, Nat.mod_one]
    simp [World.cell?, hh, this]
  · exact World.frozen?_alloc_at _ _ _ _ rfl
theorem conv_zeros (w : World) (n : Nat) : (convert 48 9 (.slice (some ⟨w.heap.size, 0, none⟩) n n)).run Try.prog (zerosW w n) = .ok (.string (zeroB n)) (zerosW w n) :=
  conv_from (zerosW w n) w.heap.size _ (zerosW_row w n) n n (by simp)
theorem zerosW_below (w : World) (n : Nat) : Below w.heap.size w (zerosW w n) := (Below.refl _ w).alloc (Nat.le_refl _) _
theorem zeroB_size (n : Nat) : (zeroB n).size = n := by rw [sizeL]; simp [zeroB]
end Go.Proofs.Ytpalgadokdcgnaa

/- A slice of texts that is one's own: one of its texts read, and laid anew. -/
namespace Go.Proofs.Ytpalgadokdcgnaa
set_option maxRecDepth 100000
open Go.RowKit M

/-- An own slice that is not empty: where it lies. -/
theorem Own.at_ {w : World} {B n c : Nat} {a : Option Addr} {l : List ByteArray} (h : Own w B (.slice a n c) l) (hn : 0 < n) :
    ∃ g, a = some ⟨g, 0, none⟩ ∧ B ≤ g ∧ g < w.heap.size ∧ l.length = n ∧ n ≤ c ∧ (∀ j, j < n → w.frozen? ⟨g, j, none⟩ = false) ∧ ∀ j (hj : j < l.length), w.cell? ⟨g, j, none⟩ = some (.string l[j]) := by
  have hl := h.txt.len
  rcases h.2 with ⟨e, h0⟩ | ⟨g, cap, cur, e, hB, hg, hnc, _, hcs, _⟩
  · simp only [Value.slice.injEq] at e
    omega
  · simp only [Value.slice.injEq] at e
    obtain ⟨rfl, _, rfl⟩ := e
    refine ⟨g, rfl, hB, (Array.getElem?_eq_some_iff.1 hg).1, hl, by omega, fun j hj => ?_, fun j hj => ?_⟩
    · simp [World.frozen?, hg]
    · obtain ⟨g', o, c', e, _, _, hcell⟩ := h.txt.isSome (by omega)
      simp only [Value.slice.injEq, Option.some.injEq, Addr.mk.injEq, and_true] at e
      obtain ⟨⟨rfl, rfl⟩, _⟩ := e
      have := hcell j hj
      rwa [Nat.zero_add] at this
theorem Own.set {w : World} {B n c g : Nat} {l : List ByteArray} (h : Own w B (.slice (some ⟨g, 0, none⟩) n c) l) (k : Nat) (hk : k < n) (s : ByteArray) :
    Own (w.setCell ⟨g, k, none⟩ (.string s)) B (.slice (some ⟨g, 0, none⟩) n c) (l.set k s) := by
  have hl := h.txt.len
  rcases h.2 with ⟨e, h0⟩ | ⟨g', cap, cur, e, hB, hg, hnc, hcm, hcs, ht⟩
  · simp only [Value.slice.injEq] at e
    omega
  · simp only [Value.slice.injEq, Option.some.injEq, Addr.mk.injEq, and_true] at e
    obtain ⟨rfl, _, rfl⟩ := e
    refine ⟨by simp, .inr ⟨g, c, cur.setIfInBounds k (.string s), by simp [hl], hB, ?_, by simpa using hnc, hcm, by simpa using hcs, ?_⟩⟩
    · simp [World.setCell, Array.getElem?_modify, hg]
    · rw [List.length_set, Nat.mul_one] at *
      rw [Array.toList_setIfInBounds, List.take_set, ht, List.map_set]
/-- Stored: what lay below is as it was. -/
theorem below_store {w w' : World} {B g k : Nat} (h : Below B w w') (hB : B ≤ g) (v : Value) : Below B w (w'.setCell ⟨g, k, none⟩ v) := h.setCell (p := ⟨g, k, none⟩) hB v
end Go.Proofs.Ytpalgadokdcgnaa

/- slices.Grow, slices.Concat of two, par.Again: what they answer. -/
namespace Go.Proofs.Ytpalgadokdcgnaa
set_option maxRecDepth 100000
open Go.RowKit M

set_option maxHeartbeats 1000000 in
theorem grow_any (n : Nat) (w : World) (hn : 0 < n) (hn2 : n ≤ 4294967296) :
    Calls Try.prog 95 #[.slice none 0 0, .int .i64 n] w fun e w' =>
      ∃ c, e = .returned (.slice (some ⟨w.heap.size, 0, none⟩) 0 c) ∧ Own w' w.heap.size (.slice (some ⟨w.heap.size, 0, none⟩) 0 c) [] ∧ Below w.heap.size w w' := by
  obtain ⟨i, hi, hz, hs, hb⟩ := info_str
  have hr := fun ty => Lib.run_append_nil_zeros (P := Try.prog) w 27 3 ty 9 i (.string ⟨#[]⟩) .i64 .i64 Try.underlying27 Try.underlying3 hi hz n hn (by omega) (by omega) (by rw [hb]; omega)
  have hge := grownCap_ge w n 0 9
  have hle := grownCap_le_maxLen w n 0 9 (by unfold maxLen; omega)
  have hO : Own (w.drew.alloc (.cells (Builtin.zeroCells (Value.string ⟨#[]⟩).cells n ++ Builtin.zeroCells (Value.string ⟨#[]⟩).cells (grownCap w n 0 9 - n)) 9)) w.heap.size (.slice (some ⟨w.heap.size, 0, none⟩) 0 (grownCap w n 0 9)) [] := by
    refine World.ownsRow_made (e := 9) (size := 1) (base := w.heap.size) w.drew _ (grownCap w n 0 9) (Nat.le_refl _) hle ?_
    simp only [Array.size_append, size_zeroCells]
    have : (Value.string ⟨#[]⟩).cells.size = 1 := rfl
    rw [this]
    omega
  have hB : Below w.heap.size w (w.drew.alloc (.cells (Builtin.zeroCells (Value.string ⟨#[]⟩).cells n ++ Builtin.zeroCells (Value.string ⟨#[]⟩).cells (grownCap w n 0 9 - n)) 9)) := (Below.refl _ w).drew.alloc (Nat.le_refl _) _
  generalize hW : w.drew.alloc (.cells (Builtin.zeroCells (Value.string ⟨#[]⟩).cells n ++ Builtin.zeroCells (Value.string ⟨#[]⟩).cells (grownCap w n 0 9 - n)) 9) = W at hr hO hB
  generalize hg : grownCap w n 0 9 = gc at hr hO hge hle
  have HR := Lib.hid hr
  unfold maxLen at hle
  clear hr hW hg hi hz hs hb
  go_enter Try.func95, Try.ntmps95
  go_wp2_with (at_builtin; refine Lib.wpList_append_run _ rfl (.tmp 20) (.tmp 21) _ _ rfl _ _ rfl rfl _ _ (HR.out _) ?_)
  go_ret
  exact ⟨gc, rfl, hO, hB⟩

set_option maxHeartbeats 2000000 in
theorem concat_any (l1 l2 : List ByteArray) (a1 a2 : Option Addr) (n1 c1 n2 c2 D : Nat) (w : World) (h1 : Txt w (.slice a1 n1 c1) l1) (h2 : Txt w (.slice a2 n2 c2) l2) (hD : D < w.heap.size)
    (hd1 : w.cell? ⟨D, 0, none⟩ = some (.slice a1 n1 c1)) (hd2 : w.cell? ⟨D, 1, none⟩ = some (.slice a2 n2 c2)) (hn : 0 < n1 + n2) (hn2 : n1 + n2 ≤ 4294967296) :
    Calls Try.prog 86 #[.slice (some ⟨D, 0, none⟩) 2 2] w fun e w' =>
      ∃ a c, e = .returned (.slice a (n1 + n2) c) ∧ Txt w' (.slice a (n1 + n2) c) (l1 ++ l2) ∧ Below w.heap.size w w' := by
  have HL1 := Lib.hid h1.len
  have HL2 := Lib.hid h2.len
  have H1 := Lib.hid h1
  have H2 := Lib.hid h2
  clear h1 h2
  go_enter Try.func86, Try.ntmps86
  go_wp2_with fail
  refine wp_loop_rounds 3 ?_
  rw [rounds_succ]
  go_wp2_with fail
  rw [rounds_succ]
  go_wp2_with fail
  rw [rounds_succ]
  go_wp2_with fail
  have hg := grow_any (n1 + n2) w hn hn2
  rw [show ((n1 + n2 : Nat) : Int) = (n1 : Int) + (n2 : Int) by omega] at hg
  refine hg.mono ?_
  clear hg
  rintro e w1 ⟨c, rfl, hO1, b1⟩
  have hB1 : w.heap.size ≤ w1.heap.size := b1.size
  have hd1' : w1.cell? ⟨D, 0, none⟩ = some (.slice a1 n1 c1) := by rw [b1.cell (p := ⟨D, 0, none⟩) hD]; exact hd1
  have hd2' : w1.cell? ⟨D, 1, none⟩ = some (.slice a2 n2 c2) := by rw [b1.cell (p := ⟨D, 1, none⟩) hD]; exact hd2
  have hT1 := H1.out.below b1
  clear hd1 hd2
  go_wp2_with fail
  refine wp_loop_rounds 3 ?_
  rw [rounds_succ]
  go_wp2_with (at_builtin; refine wpList_append_txt _ rfl (.tmp 31) (.tmp 32) rfl w.heap.size _ _ [] l1 l1 n1 rfl rfl rfl HL1.out hO1 hT1 hB1 (by omega) ?_; intro a3 c3 w3 hO3 b3 s3)
  have b03 := b1.trans b3
  have hd3 : w3.cell? ⟨D, 1, none⟩ = some (.slice a2 n2 c2) := by rw [b3.cell (p := ⟨D, 1, none⟩) hD]; exact hd2'
  have hT3 := H2.out.below b03
  clear hd1' hd2' hT1 hO1
  rw [rounds_succ]
  go_wp2_with (at_builtin; refine wpList_append_txt _ rfl (.tmp 31) (.tmp 32) rfl w.heap.size _ _ l1 l2 (l1 ++ l2) (n1 + n2) rfl rfl rfl (by simp [HL1.out, HL2.out]) hO3 hT3 b03.size (by omega) ?_; intro a4 c4 w4 hO4 b4 s4)
  rw [rounds_succ]
  go_wp2
  go_ret
  exact ⟨a4, c4, rfl, hO4.txt, b03.trans b4⟩

/-- A slice's first texts, and its last. -/
theorem txt_take {w : World} {g o c k : Nat} {l : List ByteArray} (hk : k ≤ l.length) (hc : k ≤ c) (hg : g < w.heap.size) (h : ∀ j (h : j < l.length), w.cell? ⟨g, o + j, none⟩ = some (.string l[j])) :
    Txt w (.slice (some ⟨g, o, none⟩) k c) (l.take k) := by
  have hl : (l.take k).length = k := by rw [List.length_take]; omega
  refine ⟨_, c, by rw [hl], by omega, fun j hj => ⟨g, o, rfl, hg, ?_⟩⟩
  rw [hl] at hj
  rw [h j (by omega), List.getElem_take]
theorem txt_drop {w : World} {g o c k n : Nat} {l : List ByteArray} (hn : l.length = n) (hc : n ≤ c) (hg : g < w.heap.size) (h : ∀ j (h : j < l.length), w.cell? ⟨g, o + j, none⟩ = some (.string l[j])) :
    Txt w (.slice (some ⟨g, o + k, none⟩) (n - k) (c - k)) (l.drop k) := by
  have hl : (l.drop k).length = n - k := by rw [List.length_drop]; omega
  refine ⟨_, c - k, by rw [hl], by omega, fun j hj => ⟨g, o + k, rfl, hg, ?_⟩⟩
  rw [hl] at hj
  rw [Nat.add_assoc, h (k + j) (by omega), List.getElem_drop]
theorem txt_empty (w : World) (a : Option Addr) (c : Nat) : Txt w (.slice a 0 c) [] := ⟨a, c, rfl, Nat.zero_le _, fun _ h => absurd h (Nat.not_lt_zero _)⟩
theorem mem_erase {α : Type} {l : List α} {k : Nat} {s : α} (h : s ∈ l.eraseIdx k) : s ∈ l := List.mem_of_mem_eraseIdx h

/-- A place that is none, or fewer than two. -/
theorem again_no (a : Option Addr) (n c : Nat) (at_ : Int) (w : World) (h : n < 2 ∨ at_ < 0 ∨ (n : Int) ≤ at_) :
    Calls Try.prog 71 #[.slice a n c, .int .i64 at_] w fun e w' => e = .returned (.tuple #[.string ⟨#[]⟩, .int .i64 1]) ∧ w = w' := by
  by_cases h1 : n < 2
  · clear h
    go_enter Try.func71, Try.ntmps71
    go_wp2
    go_ret2
    exact ⟨rfl, rfl⟩
  · by_cases h2 : at_ < 0
    · clear h
      go_enter Try.func71, Try.ntmps71
      go_wp2
      go_ret2
      exact ⟨rfl, rfl⟩
    · have h3 : (n : Int) ≤ at_ := by omega
      clear h
      go_enter Try.func71, Try.ntmps71
      go_wp2
      go_ret2
      exact ⟨rfl, rfl⟩
end Go.Proofs.Ytpalgadokdcgnaa

/- par.Again: what it answers. -/
namespace Go.Proofs.Ytpalgadokdcgnaa
set_option maxRecDepth 100000
open Go.RowKit M

/-- The texts but one, put together: the one is the last, and no room lies behind it. -/
theorem cat_last (l : List ByteArray) (g o c n k : Nat) (w : World) (hl : l.length = n) (hcc : n ≤ c) (hg : g < w.heap.size) (hc : ∀ j (h : j < l.length), w.cell? ⟨g, o + j, none⟩ = some (.string l[j])) (hk : k + 1 = c) (hkn : k < n) (hn : 2 ≤ n) (hm : n ≤ 4294967295) :
    Calls Try.prog 86 #[.slice (some ⟨w.heap.size, 0, none⟩) 2 2] (w.alloc (.cells #[.slice (some ⟨g, o, none⟩) k c, .slice (some ⟨g, o, none⟩) 0 0] 27)).drew fun e w' =>
      ∃ a c', e = .returned (.slice a (k + 0) c') ∧ Txt w' (.slice a (k + 0) c') (l.eraseIdx k) ∧ Below w.heap.size w w' := by
  have HD : l.drop (k + 1) = [] := List.drop_eq_nil_of_le (by omega)
  have b1 : Below w.heap.size w (w.alloc (.cells #[.slice (some ⟨g, o, none⟩) k c, .slice (some ⟨g, o, none⟩) 0 0] 27)).drew := ((Below.refl _ w).alloc (Nat.le_refl _) _).drew
  have hT1 := txt_take (k := k) (c := c) (l := l) (by omega) (by omega) (Nat.lt_of_lt_of_le hg b1.size) fun j hj => by rw [b1.cell (p := ⟨g, o + j, none⟩) hg]; exact hc j hj
  have hcon := concat_any (l.take k) [] (some ⟨g, o, none⟩) (some ⟨g, o, none⟩) k c 0 0 w.heap.size _ hT1 (txt_empty _ _ _) (by simp) (by simp) (by simp) (by omega) (by omega)
  rw [← HD, ← List.eraseIdx_eq_take_drop_succ] at hcon
  exact hcon.mono fun e w' ⟨a, c', h1, h2, h3⟩ => ⟨a, c', h1, h2, early2 b1 h3⟩
/-- The same, the one being any other. -/
theorem cat_mid (l : List ByteArray) (g o c n k : Nat) (w : World) (hl : l.length = n) (hcc : n ≤ c) (hg : g < w.heap.size) (hc : ∀ j (h : j < l.length), w.cell? ⟨g, o + j, none⟩ = some (.string l[j])) (hkn : k < n) (hn : 2 ≤ n) (hm : n ≤ 4294967295) :
    Calls Try.prog 86 #[.slice (some ⟨w.heap.size, 0, none⟩) 2 2] (w.alloc (.cells #[.slice (some ⟨g, o, none⟩) k c, .slice (some ⟨g, o + (k + 1), none⟩) (n - (k + 1)) (c - (k + 1))] 27)).drew fun e w' =>
      ∃ a c', e = .returned (.slice a (k + (n - (k + 1))) c') ∧ Txt w' (.slice a (k + (n - (k + 1))) c') (l.eraseIdx k) ∧ Below w.heap.size w w' := by
  have b1 : Below w.heap.size w (w.alloc (.cells #[.slice (some ⟨g, o, none⟩) k c, .slice (some ⟨g, o + (k + 1), none⟩) (n - (k + 1)) (c - (k + 1))] 27)).drew := ((Below.refl _ w).alloc (Nat.le_refl _) _).drew
  have hgW := Nat.lt_of_lt_of_le hg b1.size
  have hcW : ∀ j (h : j < l.length), (w.alloc (.cells #[.slice (some ⟨g, o, none⟩) k c, .slice (some ⟨g, o + (k + 1), none⟩) (n - (k + 1)) (c - (k + 1))] 27)).drew.cell? ⟨g, o + j, none⟩ = some (.string l[j]) :=
    fun j hj => by rw [b1.cell (p := ⟨g, o + j, none⟩) hg]; exact hc j hj
  have hcon := concat_any (l.take k) (l.drop (k + 1)) (some ⟨g, o, none⟩) (some ⟨g, o + (k + 1), none⟩) k c (n - (k + 1)) (c - (k + 1)) w.heap.size _ (txt_take (by omega) (by omega) hgW hcW) (txt_drop hl hcc hgW hcW)
    (by simp) (by simp) (by simp) (by omega) (by omega)
  rw [← List.eraseIdx_eq_take_drop_succ] at hcon
  exact hcon.mono fun e w' ⟨a, c', h1, h2, h3⟩ => ⟨a, c', h1, h2, early2 b1 h3⟩

set_option maxHeartbeats 4000000 in
theorem again_any (l : List ByteArray) (a : Option Addr) (n c : Nat) (at_ : Int) (w : World) (h : Txt w (.slice a n c) l) (hm : n ≤ 4294967295) (hz : ∀ s ∈ l, s.size ≤ maxLen) (k : Nat) (hk : at_ = k) (hkn : k < n) (hn : 2 ≤ n) :
    Calls Try.prog 71 #[.slice a n c, .int .i64 at_] w fun e w' => e = .returned (.tuple #[.string (mkB (l.eraseIdx k)), .int .i64 (mkE (l.eraseIdx k))]) ∧ Below w.heap.size w w' := by
  subst hk
  have HL := Lib.hid h.len
  obtain ⟨g, o, c', e, hcc, hg, hcell⟩ := h.isSome (by rw [HL.out]; omega)
  simp only [Value.slice.injEq] at e
  obtain ⟨rfl, -, rfl⟩ := e
  rw [HL.out] at hcc
  have HZ := Lib.hid hz
  have HC := Lib.hid hcell
  clear hcell hz h
  have hd1 : decide ((n : Int) < 2) = false := by rw [decide_eq_false_iff_not]; omega
  have hd2 : decide ((k : Int) < 0) = false := by rw [decide_eq_false_iff_not]; omega
  have hd3 : decide ((n : Int) ≤ (k : Int)) = false := by rw [decide_eq_false_iff_not]; omega
  go_enter Try.func71, Try.ntmps71
  go_wp2_with fail
  by_cases hc1 : k + 1 = c
  · subst hc1
    obtain rfl : n = k + 1 := by omega
    have q0 : IntKind.i64.wrap ((k : Int) + 1) = (k : Int) + 1 := by rw [IntKind.wrap_i64]; omega
    have q3 : ((k : Int) + 1).toNat = k + 1 := by omega
    have q7 : 0 ≤ (k : Int) + 1 := by omega
    have q6 : (k : Int) + 1 ≤ ((k + 1 : Nat) : Int) := by omega
    go_region_with (first
      | (go_at_call 86; refine (cat_last l g o (k + 1) (k + 1) k w HL.out hcc hg HC.out rfl hkn hn hm).mono ?_; rintro e w2 ⟨a2, c2, rfl, hT2, b2⟩)
      | (go_at_call 24; refine (make_any (l.eraseIdx k) _ _ hT2 (by rw [List.length_eraseIdx_of_lt (by rw [HL.out]; exact hkn), HL.out]; unfold maxLen; omega) (fun s hs => HZ.out s (mem_erase hs))).mono ?_; rintro e w3 ⟨rfl, b3⟩))
    go_wp2
    go_ret2
    exact ⟨rfl, early2 b2 b3⟩
  · have q0 : IntKind.i64.wrap ((k : Int) + 1) = (k : Int) + 1 := by rw [IntKind.wrap_i64]; omega
    have q3 : ((k : Int) + 1).toNat = k + 1 := by omega
    have q4 : ¬ c = k + 1 := fun e => hc1 e.symm
    have q5 : k ≤ c := by omega
    have q6 : (k : Int) + 1 ≤ (n : Int) := by omega
    have q7 : 0 ≤ (k : Int) + 1 := by omega
    go_region_with (first
      | (go_at_call 86; refine (cat_mid l g o c n k w HL.out hcc hg HC.out hkn hn hm).mono ?_; rintro e w2 ⟨a2, c2, rfl, hT2, b2⟩)
      | (go_at_call 24; refine (make_any (l.eraseIdx k) _ _ hT2 (by rw [List.length_eraseIdx_of_lt (by rw [HL.out]; exact hkn), HL.out]; unfold maxLen; omega) (fun s hs => HZ.out s (mem_erase hs))).mono ?_; rintro e w3 ⟨rfl, b3⟩))
    go_wp2
    go_ret2
    exact ⟨rfl, early2 b2 b3⟩
end Go.Proofs.Ytpalgadokdcgnaa

/- code's small calls: a sector, a list that lacks one, texts one behind the other. -/
namespace Go.Proofs.Ytpalgadokdcgnaa
set_option maxRecDepth 100000
open Go.RowKit M

theorem sector_any (s : ByteArray) (i z : Nat) (w : World) (hs : s.size = z * 64) (hi : i < z) (hz : z ≤ 1000) :
    Calls Try.prog 23 #[.string s, .int .i64 (i : Int)] w fun e w' => e = .returned (.string (sect s i)) ∧ Below w.heap.size w w' := by
  have h1 : (i : Int) * 64 ≤ s.size := by omega
  have h2 : ((i : Int) + 1) * 64 ≤ s.size := by omega
  have q1 : ((i : Int) * 64).toNat = i * 64 := by omega
  have q2 : (((i : Int) + 1) * 64).toNat = (i + 1) * 64 := by omega
  have q3 : IntKind.i64.wrap ((i : Int) * 64) = (i : Int) * 64 := by rw [IntKind.wrap_i64]; omega
  have q4 : IntKind.i64.wrap ((i : Int) + 1) = (i : Int) + 1 := by rw [IntKind.wrap_i64]; omega
  have q5 : IntKind.i64.wrap (((i : Int) + 1) * 64) = ((i : Int) + 1) * 64 := by rw [IntKind.wrap_i64]; omega
  have q6 : (i : Int) * 64 ≤ ((i : Int) + 1) * 64 := by omega
  have hs2 : s.size ≤ 64000 := by omega
  clear hs
  go_enter Try.func23, Try.ntmps23
  go_wp2
  go_ret
  exact ⟨rfl, Below.refl _ _⟩

theorem no_txt (s : ByteArray) : s.toList.isEmpty = (s.size == 0) := by
  rw [ByteArray.toList_eq, sizeL]
  cases s.data.toList <;> simp
/-- None of the first k is nothing. -/
def fullTo (l : List ByteArray) (k : Nat) : Prop := ∀ j (h : j < l.length), j < k → l[j].size ≠ 0
theorem fullTo_all {l : List ByteArray} (h : fullTo l l.length) : holeL l = false := by
  unfold holeL
  rw [List.any_eq_false]
  intro s hs
  obtain ⟨j, hj, rfl⟩ := List.getElem_of_mem hs
  simpa using h j hj hj
theorem hole_at {l : List ByteArray} {k : Nat} (hk : k < l.length) (h : l[k].size = 0) : holeL l = true := by
  unfold holeL
  rw [List.any_eq_true]
  exact ⟨_, List.getElem_mem hk, by simp [h]⟩

set_option maxHeartbeats 1000000 in
theorem index_hole (l : List ByteArray) (v : Value) (w : World) (h : Txt w v l) (hm : l.length ≤ 100000) :
    Calls Try.prog 65 #[v, .string ⟨#[]⟩] w fun e w' =>
      ∃ k : Int, e = .returned (.int .i64 k) ∧ (holeL l = false → k = -1) ∧ (holeL l = true → 0 ≤ k) ∧ w = w' := by
  obtain ⟨a, c, rfl, hcc, hj⟩ := h
  have HJ := Lib.hid hj
  clear hj
  generalize hn : l.length = n at hm hcc
  have HN := Lib.hid hn
  clear hn
  go_enter Try.func65, Try.ntmps65
  go_wp2_with fail
  go_loop [8] (fun i => ∃ k : Nat, k ≤ n ∧ i = .int .i64 k ∧ Hid (fullTo l k)) (fun i => n - (intOf i).toNat)
  case atStart => exact ⟨0, Nat.zero_le _, rfl, Lib.hid fun j _ hj => absurd hj (Nat.not_lt_zero _)⟩
  case round =>
    obtain ⟨k, hk, rfl, H⟩ := hrel
    by_cases hlt : k < n
    · have hlt' : k < l.length := by rw [HN.out]; exact hlt
      obtain ⟨g, o, rfl, hg, hck⟩ := HJ.out k hlt'
      generalize hs : l[k] = s at hck
      have HS : Hid (∃ h : k < l.length, l[k] = s) := Lib.hid ⟨hlt', hs⟩
      clear hs hlt'
      have hq := no_txt s
      by_cases hz : s.size = 0
      · have hz' : s.toList.isEmpty = true := by rw [hq]; simp [hz]
        have HZ := Lib.hid hz
        clear hz hq
        go_wp2
        go_ret
        have hyes : holeL l = true := by
          obtain ⟨hk', hs⟩ := HS.out
          exact hole_at hk' (by rw [hs]; exact HZ.out)
        exact ⟨k, rfl, fun h => by (rw [hyes] at h; cases h), fun _ => by omega, rfl⟩
      · have hz' : s.toList.isEmpty = false := by rw [hq]; simp [hz]
        have HZ := Lib.hid hz
        clear hz hq
        go_wp2
        go_round
        case rel =>
          refine ⟨k + 1, by omega, by go_num, Lib.hid fun j hj hjk => ?_⟩
          by_cases e : j = k
          · subst e
            obtain ⟨_, hs⟩ := HS.out
            rw [hs]; exact HZ.out
          · exact H.out j hj (by omega)
        case measure => simp [intOf]; omega
    · go_wp2
      go_ret
      have hno : holeL l = false := fullTo_all (by
        obtain rfl : k = n := by omega
        rw [HN.out]; exact H.out)
      exact ⟨-1, rfl, fun _ => rfl, fun h => by (rw [hno] at h; cases h), rfl⟩
theorem contains_hole (l : List ByteArray) (v : Value) (w : World) (h : Txt w v l) (hm : l.length ≤ 100000) (b : Bool) (hb : holeL l = b) :
    Calls Try.prog 57 #[v, .string ⟨#[]⟩] w fun e w' => e = .returned (.bool b) ∧ w = w' := by
  have HI := Lib.hid (index_hole l v w h hm)
  have HB := Lib.hid hb
  clear h hm hb
  go_enter Try.func57, Try.ntmps57
  go_wp2_with fail
  refine HI.out.mono ?_
  rintro e w1 ⟨k, rfl, h1, h2, rfl⟩
  rw [HB.out] at h1 h2
  cases b with
  | false =>
    obtain rfl := h1 rfl
    go_wp2
    go_ret
    exact ⟨rfl, rfl⟩
  | true =>
    have hk := h2 rfl
    clear h1 h2
    go_wp2
    go_ret
    exact ⟨rfl, rfl⟩
theorem join_flat (l : List ByteArray) : Lib.join (l.map (·.data.toList)) (⟨#[]⟩ : ByteArray).data.toList = l.flatMap fun s => s.data.toList := by
  cases l with
  | nil => rfl
  | cons s r =>
    rw [List.map_cons, Lib.join_cons]
    simp [Lib.joinTail, List.flatMap_def]
    rfl
theorem join_any (l : List ByteArray) (v : Value) (w : World) (h : Txt w v l) (hm : l.length ≤ 100000) (hz : ∀ s ∈ l, s.size ≤ 100000) :
    Calls Try.prog 58 #[v, .string ⟨#[]⟩] w fun e w' => e = .returned (.string (joinB l)) ∧ Below w.heap.size w w' := by
  by_cases hl : 0 < l.length
  · obtain ⟨g, o, c, rfl, hcc, hg, hc⟩ := h.isSome hl
    have hlen : (Lib.join (l.map (·.data.toList)) (⟨#[]⟩ : ByteArray).data.toList).length ≤ 140737488355328 := by
      rw [join_flat]
      have : ∀ m : List ByteArray, (∀ s ∈ m, s.size ≤ 100000) → (m.flatMap fun s => s.data.toList).length ≤ m.length * 100000 := by
        intro m
        induction m with
        | nil => intro _; simp
        | cons s r ih =>
          intro hm
          have h1 := ih fun t ht => hm t (List.mem_cons_of_mem _ ht)
          have h2 := hm s List.mem_cons_self
          rw [sizeL] at h2
          rw [List.flatMap_cons, List.length_append, List.length_cons, Nat.add_mul]
          omega
      have := this l hz
      omega
    have := Try.strings_Join g o c l ⟨#[]⟩ w (fun j x hx => by
      obtain ⟨hj, rfl⟩ := List.getElem?_eq_some_iff.1 hx
      exact hc j hj) hg (by omega) hcc hlen
    rw [join_flat] at this
    exact this
  · obtain rfl : l = [] := List.eq_nil_of_length_eq_zero (by omega)
    obtain ⟨a, c, rfl⟩ := h.isNone
    exact (Try.strings_Join_none a c ⟨#[]⟩ w).mono fun e w' ⟨h1, h2⟩ => ⟨h1, by rw [h2]; exact Below.refl _ _⟩
/-- What joined answers. -/
theorem joined_any (l : List ByteArray) (v : Value) (w : World) (h : Txt w v l) (hm : l.length ≤ 100000) (hz : ∀ s ∈ l, s.size ≤ 100000) :
    Calls Try.prog 46 #[v] w fun e w' => e = .returned (.tuple #[.string (if holeL l then ⟨#[]⟩ else joinB l), .bool (!holeL l)]) ∧ Below w.heap.size w w' := by
  cases hb : holeL l with
  | true =>
    have HC := Lib.hid (contains_hole l v w h hm true hb)
    clear h hm hz hb
    go_enter Try.func46, Try.ntmps46
    go_wp2_with fail
    refine HC.out.mono ?_
    rintro e w1 ⟨rfl, rfl⟩
    go_wp2
    go_ret2
    exact ⟨rfl, Below.refl _ _⟩
  | false =>
    have HC := Lib.hid (contains_hole l v w h hm false hb)
    have HJ := Lib.hid (join_any l v w h hm hz)
    clear h hm hz hb
    go_enter Try.func46, Try.ntmps46
    go_wp2_with fail
    refine HC.out.mono ?_
    rintro e w1 ⟨rfl, rfl⟩
    go_wp2_with fail
    refine HJ.out.mono ?_
    rintro e w2 ⟨rfl, b2⟩
    go_wp2
    go_ret2
    exact ⟨rfl, b2⟩
end Go.Proofs.Ytpalgadokdcgnaa

/- code.again, code.without: a column made again; a device's columns made again. -/
namespace Go.Proofs.Ytpalgadokdcgnaa
set_option maxRecDepth 100000
open Go.RowKit M

theorem rowG_mem {L : List C} {G : List ByteArray} {r : Int} {k N : Nat} (hG : ∀ s ∈ G, s.size ≤ N) : ∀ s ∈ rowG L G r k, s.size ≤ N := by
  intro s hs
  obtain ⟨j, _, rfl⟩ := List.mem_map.1 hs
  rw [List.getD_eq_getElem?_getD]
  cases h : G[j]? with
  | none => exact Nat.zero_le _
  | some t => exact hG t (List.mem_of_getElem? h)
theorem place_lt {L : List C} {G : List ByteArray} {a : Nat} (ha : a < L.length) : (rowG L G (rowAt L a) a).length < (rowG L G (rowAt L a) L.length).length := by
  obtain ⟨r, h, _⟩ := idx_split (q := fun j => rowAt L j == rowAt L a) (a := a) (by simp) L.length ha
  unfold rowG
  rw [h]
  simp

theorem txt_at (U : World) (y : ByteArray) (b : Nat) (hb : U.heap.size = b) : Txt (U.alloc (.cells #[.string y] 9)) (.slice (some ⟨b, 0, none⟩) 1 1) [y] := by subst hb; exact txt_one U y

set_option maxHeartbeats 2000000 in
theorem cagain_any (L : List C) (G : List ByteArray) (vL vG : Value) (w : World) (hV : ColsV w vL L) (hG : Txt w vG G) (hGl : G.length = L.length) (hl : L.length ≤ 100) (a : Nat) (ha : a < L.length) (h2 : 2 ≤ (rowG L G (rowAt L a) L.length).length) (hz : ∀ s ∈ G, s.size ≤ 100000) :
    Calls Try.prog 62 #[vL, vG, .int .i64 (a : Int)] w fun e w' => e = .returned (.string (agn L G a)) ∧ Below w.heap.size w w' := by
  obtain ⟨g, n, c, rfl, hn, hg, hC⟩ := hV.some (by omega)
  obtain ⟨gG, oG, cG, rfl, hcG, hgG, hCG⟩ := hG.isSome (by omega)
  have haL := ha
  rw [hGl, hn] at hcG
  rw [hn] at hl ha
  rw [hGl, hn]
  obtain ⟨r, hr⟩ : ∃ r, rowAt L a = r := ⟨_, rfl⟩
  have hCa := hC a haL
  have hra : (L[a]'haL).row = r := by rw [← rowAt_eq haL]; exact hr
  have ca := hCa.c3
  rw [hra] at ca
  have HPL : Hid ((rowG L G r a).length < (rowG L G r n).length) := Lib.hid (by rw [← hr, ← hn]; exact place_lt haL)
  have HAG : Hid (agn L G a = mkB ((rowG L G r n).eraseIdx (rowG L G r a).length)) := Lib.hid (by unfold agn; rw [hr, hn])
  rw [hr, hn] at h2
  have HC := Lib.hid hC
  have HCG := Lib.hid hCG
  have HN := Lib.hid hn
  have HGN : Hid (G.length = n) := Lib.hid (by rw [hGl, hn])
  have HR := Lib.hid hr
  have H2 := Lib.hid h2
  have HZ := Lib.hid hz
  clear hV hG hGl hn hC hCG hr hCa hra h2 hz haL
  go_enter Try.func62, Try.ntmps62
  go_wp2_with fail
  go_loopw [7, 8, 15] (fun t7 t8 i15 wr => ∃ (j m p : Nat) (b : Option Addr) (cc : Nat), j ≤ n ∧ m ≤ j ∧ p ≤ n ∧ i15 = .int .i64 (j : Int) ∧ t7 = .slice b m cc ∧ t8 = .int .i64 (p : Int) ∧ Hid (Own wr w.heap.size (.slice b m cc) (rowG L G r j)) ∧ Hid ((rowG L G r j).length = m) ∧ Hid (p = if a < j then (rowG L G r a).length else 0) ∧ Hid (Below w.heap.size w wr)) (fun _ _ i _ => n - (intOf i).toNat)
  case atStart => exact ⟨0, 0, 0, none, 0, Nat.zero_le _, Nat.le_refl _, Nat.zero_le _, rfl, rfl, rfl, Lib.hid (World.ownsRow_nil _ _ _ _), Lib.hid rfl, Lib.hid rfl, Lib.hid (Below.refl _ _)⟩
  case round =>
    obtain ⟨j, m, p, b, cc, hj, hmj, hpn, rfl, rfl, rfl, HO, HM, HP, HW⟩ := hrel
    have hsz := HW.out.size
    by_cases hjn : j < n
    · have hjL : j < L.length := by rw [HN.out]; exact hjn
      have hjG : j < G.length := by rw [HGN.out]; exact hjn
      obtain ⟨x, hx⟩ : ∃ x, L[j] = x := ⟨_, rfl⟩
      obtain ⟨y, hy⟩ : ∃ y, G[j] = y := ⟨_, rfl⟩
      have hCx := (HC.out j hjL).below hg HW.out
      rw [hx] at hCx
      obtain ⟨e0, e1, e2, e3⟩ := hCx
      have ca' := (HW.out.cell (p := ⟨g, a * 4 + 3, none⟩) hg).trans ca
      have hyc := (HW.out.cell (p := ⟨gG, oG + j, none⟩) hgG).trans (HCG.out j hjG)
      rw [hy] at hyc
      have HRX : Hid (rowAt L j = x.row) := Lib.hid (by rw [rowAt_eq hjL, hx])
      have HY : Hid (G.getD j ⟨#[]⟩ = y) := Lib.hid (by rw [List.getD_eq_getElem?_getD, List.getElem?_eq_getElem hjG, hy]; rfl)
      have HA : Hid ((if a < j then (rowG L G r a).length else 0) = p) := Lib.hid HP.out.symm
      have HOb := Lib.hid (HO.out.below (boxed wr (.cells #[.int .i64 x.dev, .int .i64 x.at_, .bool x.par, .int .i64 x.row] 40)))
      have hlw : g < wr.heap.size := Nat.lt_of_lt_of_le hg hsz
      have hlG : gG < wr.heap.size := Nat.lt_of_lt_of_le hgG hsz
      clear hx hy hjL hjG
      by_cases hrx : x.row = r
      · have hrb : (x.row == r) = true := by simp [hrx]
        have HNX : Hid (rowG L G r (j + 1) = rowG L G r j ++ [y]) := Lib.hid (by rw [rowG_yes (by rw [HRX.out]; exact hrx), HY.out])
        have HM1 : Hid ((rowG L G r j ++ [y]).length = m + 1) := Lib.hid (by rw [List.length_append, HM.out]; rfl)
        clear hrx
        by_cases hja : j = a
        · subst hja
          have HPN : Hid (m = if j < j + 1 then (rowG L G r j).length else 0) := Lib.hid (by rw [if_pos (by omega), HM.out])
          go_wp2_with fail
          go_quiet (fail)
          go_wp2_with (at_builtin; refine wpList_append_txt _ rfl _ _ rfl w.heap.size _ _ _ [y] _ (m + 1) rfl rfl rfl HM1.out ((HOb.out.below (below_drewN (Below.refl _ _) _)).alloc _) (txt_at _ y _ (by simp)) (by simp; omega) (by omega) ?_; intro b4 c4 w4 hO4 b04 s4)
          go_roundw
          case rel => exact ⟨j + 1, m + 1, m, b4, c4, by omega, by omega, by omega, by go_num, rfl, rfl, Lib.hid (by rw [HNX.out]; exact hO4), Lib.hid (by rw [HNX.out]; exact HM1.out), HPN, Lib.hid (((below_drewN (grows_alloc HW.out _) _).alloc (by simp; omega) _).trans b04)⟩
          case measure => simp [intOf]; omega
        · have hjb : ((j : Int) == (a : Int)) = false := by simp; omega
          have HPN : Hid (p = if a < j + 1 then (rowG L G r a).length else 0) := Lib.hid (by
            rw [← HA.out]
            by_cases h : a < j
            · rw [if_pos h, if_pos (by omega)]
            · rw [if_neg h, if_neg (by omega)])
          go_wp2_with fail
          go_quiet (fail)
          go_wp2_with (at_builtin; refine wpList_append_txt _ rfl _ _ rfl w.heap.size _ _ _ [y] _ (m + 1) rfl rfl rfl HM1.out ((HOb.out.below (below_drewN (Below.refl _ _) _)).alloc _) (txt_at _ y _ (by simp)) (by simp; omega) (by omega) ?_; intro b4 c4 w4 hO4 b04 s4)
          go_roundw
          case rel => exact ⟨j + 1, m + 1, p, b4, c4, by omega, by omega, by omega, by go_num, rfl, rfl, Lib.hid (by rw [HNX.out]; exact hO4), Lib.hid (by rw [HNX.out]; exact HM1.out), HPN, Lib.hid (((below_drewN (grows_alloc HW.out _) _).alloc (by simp; omega) _).trans b04)⟩
          case measure => simp [intOf]; omega
      · have hrb : (x.row == r) = false := by simp [hrx]
        have hja : ¬ j = a := fun e => hrx (by rw [← HRX.out, e]; exact HR.out)
        have HNX : Hid (rowG L G r (j + 1) = rowG L G r j) := Lib.hid (rowG_no (by rw [HRX.out]; exact hrx))
        have hjb : ((j : Int) == (a : Int)) = false := by simp; omega
        have HPN : Hid (p = if a < j + 1 then (rowG L G r a).length else 0) := Lib.hid (by
          rw [← HA.out]
          by_cases h : a < j
          · rw [if_pos h, if_pos (by omega)]
          · rw [if_neg h, if_neg (by omega)])
        clear hrx
        go_wp2_with fail
        go_quiet (fail)
        go_wp2
        go_roundw
        case rel => exact ⟨j + 1, m, p, b, cc, by omega, by omega, by omega, by go_num, rfl, rfl, Lib.hid (by rw [HNX.out]; exact HOb.out.below (below_drewN (Below.refl _ _) _)), Lib.hid (by rw [HNX.out]; exact HM.out), HPN, Lib.hid (below_drewN (grows_alloc HW.out _) _)⟩
        case measure => simp [intOf]; omega
    · obtain rfl : j = n := by omega
      have hp : p = (rowG L G r a).length := by rw [HP.out, if_pos (by omega)]
      have h2m : 2 ≤ m := by rw [← HM.out]; exact H2.out
      have hpm : p < m := by rw [hp, ← HM.out]; exact HPL.out
      have HPP := Lib.hid hp
      clear hp
      go_wp2_with fail
      refine (again_any (rowG L G r j) b m cc (p : Int) wr HO.out.txt (by omega) (fun s hs => Nat.le_trans (rowG_mem HZ.out s hs) (by decide)) p rfl hpm h2m).mono ?_
      rintro e w5 ⟨rfl, b5⟩
      go_wp2
      go_ret
      exact ⟨by rw [HAG.out, HPP.out]; rfl, next HW.out b5⟩
end Go.Proofs.Ytpalgadokdcgnaa

/- code.without: the data columns, a device's made again. -/
namespace Go.Proofs.Ytpalgadokdcgnaa
set_option maxRecDepth 100000
open Go.RowKit M

/-- Each data column has another one in its row. -/
def Paired (L : List C) : Prop := ∀ a, a < L.length → parAt L a = false → 2 ≤ (idx (fun j => rowAt L j == rowAt L a) L.length).length

set_option maxHeartbeats 2000000 in
theorem without_any (L : List C) (G : List ByteArray) (vL vG : Value) (w : World) (hV : ColsV w vL L) (hG : Txt w vG G) (hGl : G.length = L.length) (h0 : 0 < L.length) (hl : L.length ≤ 100) (h2 : Paired L) (hz : ∀ s ∈ G, s.size ≤ 100000) (d : Int) :
    Calls Try.prog 52 #[vL, vG, .int .i64 d] w fun e w' => ∃ v', e = .returned v' ∧ Txt w' v' (wth L G d L.length) ∧ Below w.heap.size w w' := by
  have HV := Lib.hid hV
  have HT := Lib.hid hG
  obtain ⟨g, n, c, rfl, hn, hg, hC⟩ := hV.some (by omega)
  obtain ⟨gG, oG, cG, rfl, hcG, hgG, hCG⟩ := hG.isSome (by omega)
  rw [hGl, hn] at hcG HT ⊢
  have HL := Lib.hid hl
  rw [hn] at hl h0
  have HC := Lib.hid hC
  have HCG := Lib.hid hCG
  have HN := Lib.hid hn
  have HGL := Lib.hid hGl
  have HGN : Hid (G.length = n) := Lib.hid (by rw [hGl, hn])
  have H2 := Lib.hid h2
  have HZ := Lib.hid hz
  clear hV hG hGl hn hC hCG h2 hz
  go_enter Try.func52, Try.ntmps52
  go_wp2_with fail
  go_loopw [7, 12] (fun t7 i12 wr => ∃ (j m : Nat) (b : Option Addr) (cc : Nat), j ≤ n ∧ m ≤ j ∧ i12 = .int .i64 (j : Int) ∧ t7 = .slice b m cc ∧ Hid (Own wr w.heap.size (.slice b m cc) (wth L G d j)) ∧ Hid ((wth L G d j).length = m) ∧ Hid (Below w.heap.size w wr)) (fun _ i _ => n - (intOf i).toNat)
  case atStart => exact ⟨0, 0, none, 0, Nat.zero_le _, Nat.le_refl _, rfl, rfl, Lib.hid (World.ownsRow_nil _ _ _ _), Lib.hid rfl, Lib.hid (Below.refl _ _)⟩
  case round =>
    obtain ⟨j, m, b, cc, hj, hmj, rfl, rfl, HO, HM, HW⟩ := hrel
    have hsz := HW.out.size
    by_cases hjn : j < n
    · have hjL : j < L.length := by rw [HN.out]; exact hjn
      have hjG : j < G.length := by rw [HGN.out]; exact hjn
      obtain ⟨x, hx⟩ : ∃ x, L[j] = x := ⟨_, rfl⟩
      obtain ⟨y, hy⟩ : ∃ y, G[j] = y := ⟨_, rfl⟩
      have hCx := (HC.out j hjL).below hg HW.out
      rw [hx] at hCx
      obtain ⟨e0, e1, e2, e3⟩ := hCx
      have hyc := (HW.out.cell (p := ⟨gG, oG + j, none⟩) hgG).trans (HCG.out j hjG)
      rw [hy] at hyc
      have HPX : Hid (parAt L j = x.par) := Lib.hid (by rw [parAt_eq hjL, hx])
      have HDX : Hid (devAt L j = x.dev) := Lib.hid (by rw [devAt_eq hjL, hx])
      have HY : Hid (G.getD j ⟨#[]⟩ = y) := Lib.hid (by rw [List.getD_eq_getElem?_getD, List.getElem?_eq_getElem hjG, hy]; rfl)
      have HOb := Lib.hid (HO.out.below (boxed wr (.cells #[.int .i64 x.dev, .int .i64 x.at_, .bool x.par, .int .i64 x.row] 40)))
      have hlw : g < wr.heap.size := Nat.lt_of_lt_of_le hg hsz
      have hlG : gG < wr.heap.size := Nat.lt_of_lt_of_le hgG hsz
      have HJL := Lib.hid hjL
      clear hx hy hjL hjG
      cases hp : x.par with
      | true =>
        rw [hp] at e2 HOb
        have HNX : Hid (wth L G d (j + 1) = wth L G d j) := Lib.hid (wth_par (by rw [HPX.out]; exact hp))
        clear hp HPX
        go_wp2
        go_roundw
        case rel => exact ⟨j + 1, m, b, cc, by omega, by omega, by go_num, rfl, Lib.hid (by rw [HNX.out]; exact HOb.out), Lib.hid (by rw [HNX.out]; exact HM.out), Lib.hid (grows_alloc HW.out _)⟩
        case measure => simp [intOf]; omega
      | false =>
        rw [hp] at e2 HOb
        have HPF : Hid (parAt L j = false) := Lib.hid (by rw [HPX.out]; exact hp)
        clear hp HPX
        by_cases hd : x.dev = d
        · have hdb : (x.dev == d) = true := by simp [hd]
          obtain ⟨q, hq⟩ : ∃ q, agn L G j = q := ⟨_, rfl⟩
          have HNX : Hid (wth L G d (j + 1) = wth L G d j ++ [q]) := Lib.hid (by rw [wth_data HPF.out, HDX.out, if_pos hd, hq])
          have HM1 : Hid ((wth L G d j ++ [q]).length = m + 1) := Lib.hid (by rw [List.length_append, HM.out]; rfl)
          have HQ := Lib.hid hq
          clear hd hq
          go_wp2_with fail
          have bw : Below wr.heap.size wr (wr.alloc (.cells #[.int .i64 x.dev, .int .i64 x.at_, .bool false, .int .i64 x.row] 40)) := boxed _ _
          refine (cagain_any L G _ _ _ (HV.out.next (next HW.out bw)) (HT.out.below (next HW.out bw)) HGL.out HL.out j HJL.out (by unfold rowG; rw [List.length_map]; exact H2.out j HJL.out HPF.out) HZ.out).mono ?_
          rintro e w5 ⟨rfl, b5⟩
          rw [HQ.out]
          have hs5 := b5.size
          rw [World.size_alloc] at hs5
          have HO5 := Lib.hid (HOb.out.below b5)
          have HB5 := Lib.hid (next (next HW.out bw) b5)
          clear b5 bw
          go_wp2_with (at_builtin; refine wpList_append_txt _ rfl _ _ rfl w.heap.size _ _ _ [q] _ (m + 1) rfl rfl rfl HM1.out (HO5.out.alloc _) (txt_at _ q _ (by simp)) (by simp; omega) (by omega) ?_; intro b4 c4 w4 hO4 b04 s4)
          go_roundw
          case rel => exact ⟨j + 1, m + 1, b4, c4, by omega, by omega, by go_num, rfl, Lib.hid (by rw [HNX.out]; exact hO4), Lib.hid (by rw [HNX.out]; exact HM1.out), Lib.hid ((grows_alloc HB5.out _).trans b04)⟩
          case measure => simp [intOf]; omega
        · have hdb : (x.dev == d) = false := by simp [hd]
          have HNX : Hid (wth L G d (j + 1) = wth L G d j ++ [y]) := Lib.hid (by rw [wth_data HPF.out, HDX.out, if_neg hd, HY.out])
          have HM1 : Hid ((wth L G d j ++ [y]).length = m + 1) := Lib.hid (by rw [List.length_append, HM.out]; rfl)
          clear hd
          go_wp2_with (at_builtin; refine wpList_append_txt _ rfl _ _ rfl w.heap.size _ _ _ [y] _ (m + 1) rfl rfl rfl HM1.out (HOb.out.alloc _) (txt_at _ y _ (by simp)) (by simp; omega) (by omega) ?_; intro b4 c4 w4 hO4 b04 s4)
          go_roundw
          case rel => exact ⟨j + 1, m + 1, b4, c4, by omega, by omega, by go_num, rfl, Lib.hid (by rw [HNX.out]; exact hO4), Lib.hid (by rw [HNX.out]; exact HM1.out), Lib.hid ((grows_alloc (grows_alloc HW.out _) _).trans b04)⟩
          case measure => simp [intOf]; omega
    · obtain rfl : j = n := by omega
      go_wp2
      go_ret
      exact ⟨_, rfl, HO.out.txt, HW.out⟩
end Go.Proofs.Ytpalgadokdcgnaa

/- code.ofMirror, code.ofParity, code.Tries: what is answered is a function that hands out tries. -/
namespace Go.Proofs.Ytpalgadokdcgnaa
set_option maxRecDepth 100000
open Go.RowKit M

theorem below_alloc2 (w : World) (o : Obj) : Below w.heap.size w (w.alloc o) := boxed w o
theorem OwnC.since {w w' : World} {B : Nat} {v : Value} {l : List C} (h : OwnC B w v l) (hs : Since B w w') : OwnC B w' v l := by
  refine ⟨h.1, ?_⟩
  rcases h.2 with hn | ⟨g, cap, cur, rfl, hB, hg, rest⟩
  · exact .inl hn
  · exact .inr ⟨g, cap, cur, rfl, hB, by rw [hs.same g hB (Array.getElem?_eq_some_iff.1 hg).1]; exact hg, rest⟩
theorem Own.since {w w' : World} {B : Nat} {v : Value} {l : List ByteArray} (h : Own w B v l) (hs : Since B w w') : Own w' B v l := by
  refine ⟨h.1, ?_⟩
  rcases h.2 with hn | ⟨g, cap, cur, rfl, hB, hg, rest⟩
  · exact .inl hn
  · exact .inr ⟨g, cap, cur, rfl, hB, by rw [hs.same g hB (Array.getElem?_eq_some_iff.1 hg).1]; exact hg, rest⟩
theorem OwnI.since {w w' : World} {B : Nat} {v : Value} {l : List Int} (h : OwnI B w v l) (hs : Since B w w') : OwnI B w' v l := by
  refine ⟨h.1, ?_⟩
  rcases h.2 with hn | ⟨g, cap, cur, rfl, hB, hg, rest⟩
  · exact .inl hn
  · exact .inr ⟨g, cap, cur, rfl, hB, by rw [hs.same g hB (Array.getElem?_eq_some_iff.1 hg).1]; exact hg, rest⟩

theorem txt_nil (w : World) (a : Addr) (n c : Nat) : (binOp .eql 27 (.slice (some a) n c) (.slice none 0 0)).run Try.prog w = .ok (.bool false) w := by kernel_rfl
theorem col_nil (w : World) (a : Addr) (n c : Nat) : (binOp .eql 33 (.slice (some a) n c) (.slice none 0 0)).run Try.prog w = .ok (.bool false) w := by kernel_rfl
theorem clone_txt (l : List ByteArray) (v : Value) (w : World) (h : Txt w v l) (h0 : 0 < l.length) (hm : l.length ≤ 100000) :
    Calls Try.prog 31 #[v] w fun e w' => ∃ v', e = .returned v' ∧ Own w' w.heap.size v' l ∧ Below w.heap.size w w' := by
  have HT := Lib.hid h
  obtain ⟨g, o, c, rfl, hc, hg, hj⟩ := h.isSome h0
  generalize hn : l.length = n at h0 hm hc HT
  have HN := Lib.hid hn
  have hq := txt_nil w ⟨g, o, none⟩ n c
  clear h hj hn
  go_enter Try.func31, Try.ntmps31
  go_wp2_with (at_builtin; refine wpList_append_txt _ rfl _ _ rfl w.heap.size _ _ [] l _ n rfl rfl rfl HN.out (own_none w _ (Nat.le_refl _)) (HT.out.alloc _) (by simp) (by omega) ?_; intro b4 c4 w4 hO4 b04 s4)
  go_wp2
  go_ret
  exact ⟨_, rfl, hO4, (boxed w _).trans b04⟩

/-- append(v, m...), columns. -/
theorem wpList_append_cols {ops : Array Oper} {rest : List Oper} {o : Oper} {a : Act} {Q : Exit → Act → World → Prop} (w : World) (hgd : o.guard = none) (s x : Operand)
    (ho : o.op = .call { callee := .builtin .append, args := #[s, x], argTypes := #[33, 33] }) (B : Nat) (v : Value) (l m : List C) (g n c' : Nat) (hs : a.eval s = v) (hx : a.eval x = .slice (some ⟨g, 0, none⟩) n c')
    (hv : OwnC B w v l) (hm : m.length = n) (hc : ∀ j (h : j < m.length), IsC w g (j * 4) m[j]) (hB : B ≤ w.heap.size) (hN : l.length + n ≤ 100000)
    (h : ∀ v' w', OwnC B w' v' (l ++ m) → Below B w w' → w.heap.size ≤ w'.heap.size → wpList Try.prog ops Q rest (a.put o.dst v') w') : wpList Try.prog ops Q (o :: rest) a w := by
  obtain ⟨i, hi, hz, hsz, hb⟩ := info_col
  subst hm
  refine wpList_append_own_at w hgd s x _ ho B 40 i _ 4 32 Try.underlying33 hi hz hsz hb rfl (by decide) v l.length (flatC l) hs hv ⟨g, 0, none⟩ m.length c' (flatC m) hx (flatC_len m) (fun j u hj => ?_) (fun u hu => ?_) (by unfold maxLen; omega) (by omega) hB fun v' w' h1 h2 _ _ => ?_
  · have hlt : j < m.length * 4 := by rw [← flatC_len]; exact (List.getElem?_eq_some_iff.1 hj).1
    have e := flatC_at m (j / 4) (by omega) (j % 4) (Nat.mod_lt _ (by decide))
    have e2 := (hc (j / 4) (by omega)).get (j % 4) (Nat.mod_lt _ (by decide))
    rw [show j / 4 * 4 + j % 4 = j by omega] at e e2
    rw [Go.WideShapes.add_plain, Nat.zero_add, e2, ← e, hj]
  · exact flatC_one m u hu
  · refine h v' w' ?_ ((Below.refl B w).grown h2 hB fun k hk => (World.ownsRow.lt hv k hk).1) h2.size
    unfold OwnC
    rw [List.length_append, flatC_app]
    exact h1
theorem own_noC (w : World) (B : Nat) (hB : B ≤ w.heap.size) : OwnC B (w.alloc (.cells #[] 40)) (.slice (some ⟨w.heap.size, 0, none⟩) 0 0) [] := by
  have := World.ownsRow_lit (base := B) (e := 40) (size := 4) w #[] 0 hB (by decide) (by simp)
  simpa [OwnC, flatC] using this
theorem clone_col (l : List C) (v : Value) (w : World) (h : ColsV w v l) (h0 : 0 < l.length) (hm : l.length ≤ 1000) :
    Calls Try.prog 48 #[v] w fun e w' => ∃ v', e = .returned v' ∧ OwnC w.heap.size w' v' l ∧ Below w.heap.size w w' := by
  obtain ⟨g, n, c, rfl, hn, hg, hj⟩ := h.some h0
  have HJ := Lib.hid hj
  have HN := Lib.hid hn
  rw [hn] at h0 hm
  have hq := col_nil w ⟨g, 0, none⟩ n c
  clear h hj hn
  go_enter Try.func48, Try.ntmps48
  go_wp2_with (at_builtin; refine wpList_append_cols _ rfl _ _ rfl w.heap.size _ [] l g n c rfl rfl (own_noC w _ (Nat.le_refl _)) HN.out (fun j hj => (HJ.out j hj).below hg (boxed w _)) (by simp) (by simp; omega) ?_; intro v4 w4 hO4 b04 s4)
  go_wp2
  go_ret
  exact ⟨_, rfl, hO4, (boxed w _).trans b04⟩
end Go.Proofs.Ytpalgadokdcgnaa

/- code.ofMirror: the function that it answers hands out the tries of a Mirror's columns. -/
namespace Go.Proofs.Ytpalgadokdcgnaa
set_option maxRecDepth 100000
open Go.RowKit Go.Shelf M
attribute [local go_sem] Oper.semAt_some

section
variable {α β : Type} (f : α → Option β) (l : List α)
/-- How many of the first k come. -/
def fmN (k : Nat) : Nat := ((l.take k).filterMap f).length
theorem fm_zero : fmN f l 0 = 0 := by simp [fmN]
theorem fm_all : fmN f l l.length = (l.filterMap f).length := by simp [fmN]
theorem fm_le (k : Nat) : fmN f l k ≤ (l.filterMap f).length := by
  unfold fmN
  exact List.Sublist.length_le (List.Sublist.filterMap f (List.take_sublist k l))
theorem fm_some {k : Nat} (hk : k < l.length) {x : β} (h : f l[k] = some x) : (l.filterMap f)[fmN f l k]? = some x ∧ fmN f l (k + 1) = fmN f l k + 1 := by
  have e : l.filterMap f = (l.take k).filterMap f ++ x :: (l.drop (k + 1)).filterMap f := by
    conv => lhs; rw [← List.take_append_drop k l, List.drop_eq_getElem_cons hk, List.filterMap_append, List.filterMap_cons_some h]
  refine ⟨?_, ?_⟩
  · rw [e]; unfold fmN; rw [List.getElem?_append_right (Nat.le_refl _), Nat.sub_self]; rfl
  · unfold fmN
    rw [List.take_succ_eq_append_getElem hk, List.filterMap_append, List.length_append, List.filterMap_cons_some h]; rfl
theorem fm_none {k : Nat} (hk : k < l.length) (h : f l[k] = none) : fmN f l (k + 1) = fmN f l k := by
  unfold fmN
  rw [List.take_succ_eq_append_getElem hk, List.filterMap_append, List.length_append, List.filterMap_cons_none h]; rfl
end

/-- A try's two values. -/
def encT (x : Int × ByteArray) : Array Value := #[.int .i64 x.1, .string x.2]

theorem joined_no (l : List ByteArray) (v : Value) (w : World) (h : Txt w v l) (hm : l.length ≤ 100000) (hz : ∀ s ∈ l, s.size ≤ 100000) (hh : holeL l = true) :
    Calls Try.prog 46 #[v] w fun e w' => e = .returned (.tuple #[.string ⟨#[]⟩, .bool false]) ∧ Below w.heap.size w w' := by
  have := joined_any l v w h hm hz
  rw [hh] at this
  exact this
theorem joined_yes (l : List ByteArray) (v : Value) (w : World) (h : Txt w v l) (hm : l.length ≤ 100000) (hz : ∀ s ∈ l, s.size ≤ 100000) (hh : holeL l = false) :
    Calls Try.prog 46 #[v] w fun e w' => e = .returned (.tuple #[.string (joinB l), .bool true]) ∧ Below w.heap.size w w' := by
  have := joined_any l v w h hm hz
  rw [hh] at this
  exact this

/-- What a Mirror's function holds. -/
structure MirS (w : World) (B b1 b2 b3 : Nat) (vL vG : Value) (z : Nat) (L : List C) (G : List ByteArray) : Prop where
  c1 : w.cell? ⟨b1, 0, none⟩ = some vL
  c2 : w.cell? ⟨b2, 0, none⟩ = some (.int .i64 (z : Int))
  c3 : w.cell? ⟨b3, 0, none⟩ = some vG
  l1 : B ≤ b1 ∧ b1 < w.heap.size
  l2 : B ≤ b2 ∧ b2 < w.heap.size
  l3 : B ≤ b3 ∧ b3 < w.heap.size
  cols : OwnC B w vL L
  txts : Own w B vG G
theorem MirS.since {w w' : World} {B b1 b2 b3 : Nat} {vL vG : Value} {z : Nat} {L : List C} {G : List ByteArray} (h : MirS w B b1 b2 b3 vL vG z L G) (hs : Since B w w') : MirS w' B b1 b2 b3 vL vG z L G :=
  ⟨by rw [hs.cell (p := ⟨b1, 0, none⟩) h.l1.1 h.l1.2]; exact h.c1, by rw [hs.cell (p := ⟨b2, 0, none⟩) h.l2.1 h.l2.2]; exact h.c2, by rw [hs.cell (p := ⟨b3, 0, none⟩) h.l3.1 h.l3.2]; exact h.c3,
    ⟨h.l1.1, Nat.lt_of_lt_of_le h.l1.2 hs.size⟩, ⟨h.l2.1, Nat.lt_of_lt_of_le h.l2.2 hs.size⟩, ⟨h.l3.1, Nat.lt_of_lt_of_le h.l3.2 hs.size⟩, h.cols.since hs, h.txts.since hs⟩

theorem chunk_len {G : List ByteArray} {u z d : Nat} (hG : G.length = u * z) (hd : d < u) : (chunk G z d).length = z := by
  unfold chunk
  rw [List.length_take, List.length_drop, hG]
  have : (d + 1) * z ≤ u * z := Nat.mul_le_mul_right _ hd
  rw [Nat.add_mul] at this
  omega
theorem chunk_txt {w : World} {g o c : Nat} {G : List ByteArray} {u z d p : Nat} (hp : d * z = p) (hc : p + z ≤ c) (hG : G.length = u * z) (hd : d < u) (hg : g < w.heap.size) (hj : ∀ j (h : j < G.length), w.cell? ⟨g, o + j, none⟩ = some (.string G[j])) :
    Txt w (.slice (some ⟨g, o + p, none⟩) z (c - p)) (chunk G z d) := by
  have hl := chunk_len hG hd
  have hb : d * z + z ≤ u * z := by rw [← Nat.succ_mul]; exact Nat.mul_le_mul_right _ hd
  subst hp
  have := Txt.mk (w := w) (g := g) (o := o + d * z) (c := c - d * z) (l := chunk G z d) (by rw [hl]; omega) hg (fun j h => by
    have hjG : d * z + j < G.length := by rw [hG]; omega
    rw [Nat.add_assoc, hj _ hjG]
    have e : (chunk G z d)[j]? = some G[d * z + j] := by
      unfold chunk
      rw [List.getElem?_take, if_pos (by rw [← hl]; exact h), List.getElem?_drop, List.getElem?_eq_getElem hjG]
    rw [List.getElem?_eq_getElem h] at e
    rw [Option.some.inj e])
  rwa [hl] at this

set_option maxHeartbeats 2000000 in
theorem mir1_hands (n : Nat) (hn : 1 ≤ n) (w : World) (B b1 b2 b3 : Nat) (vL vG : Value) (u z : Nat) (L : List C) (G : List ByteArray) (hM : MirS w B b1 b2 b3 vL vG z L G) (hz1 : 1 ≤ z) (hz4 : z ≤ 4) (hu1 : 1 ≤ u) (hu8 : u ≤ 8) (hL : L.length = u * z) (hG : G.length = u * z) (hs : ∀ s ∈ G, s.size ≤ 1000) :
    HandsS Fence.wide n Try.prog 45 #[.pointer (some ⟨b1, 0, none⟩), .pointer (some ⟨b2, 0, none⟩), .pointer (some ⟨b3, 0, none⟩)] encT (triesM L G u z) B w := fun l J Jx W hW hJ hJx hJS hY h0 => by
  refine callsIn_of_wp Try.func45 rfl trivial ?_ rfl
  simp only [Try.ntmps45, List.size_toArray, List.length_cons, List.length_nil, Nat.reduceAdd, Nat.reduceSub, Array.replicate_succ, Array.replicate_zero, List.push_toArray, List.append_toArray, List.nil_append, List.cons_append]
  have hLp : 0 < u * z := Nat.mul_pos hu1 hz1
  obtain ⟨N, hN⟩ : ∃ N, u * z = N := ⟨_, rfl⟩
  rw [hN] at hL hG hLp
  have hN32 : N ≤ 32 := by rw [← hN]; exact Nat.mul_le_mul hu8 hz4
  obtain ⟨g, c, rfl, hc, hgB, hA⟩ := hM.cols.some (by omega)
  obtain ⟨gG, oG, cG, hvG, hcG, hgG, hjG⟩ := hM.txts.txt.isSome (by omega)
  subst hvG
  rw [hL] at hc
  rw [hG] at hcG
  have HM := Lib.hid hM
  rw [hL, hG] at HM
  have HY := Lib.hid hY
  have HJ := Lib.hid hJ
  have HJS := Lib.hid hJS
  have HN := Lib.hid hN
  have HL := Lib.hid hL
  have HG := Lib.hid hG
  have HSZ := Lib.hid hs
  have HJ0 := Lib.hid h0
  clear hY hJ hJx hJS hN hL hG hM hA hjG h0 hs
  have hW2 := HM.out.since hW
  gi_wp2_with fail
  gi_loopw [5] (fun t5 wr => ∃ d p : Nat, d ≤ u ∧ d * z = p ∧ p ≤ N ∧ t5 = .int .i64 (p : Int) ∧ Hid (J (fmN (fun d => tryOf (devAt L (d * z)) (chunk G z d)) (List.range u) d) wr) ∧ Hid (W.heap.size ≤ wr.heap.size)) (fun i _ => N - (intOf i).toNat)
  case atStart => exact ⟨0, 0, Nat.zero_le _, Nat.zero_mul _, Nat.zero_le _, rfl, Lib.hid (by rw [fm_zero]; exact HJ0.out), Lib.hid (Nat.le_refl _)⟩
  case round =>
    obtain ⟨d, p, hd, hp, hpN, rfl, HJd, HWr⟩ := hrel
    have HP := Lib.hid hp
    have hK := HM.out.since (HJS.out _ _ HJd.out)
    have hsz := (HJS.out _ _ HJd.out).size
    have HWS : Hid (W.heap.size ≤ wr.heap.size) := HWr
    obtain ⟨k1, k2, k3, -, -, -, hcols, htx⟩ := hK
    clear hp
    by_cases hlt : p < N
    · have hdu : d < u := by
        rcases Nat.lt_or_ge d u with h | h
        · exact h
        · exfalso
          have := Nat.mul_le_mul_right z h
          rw [HN.out, HP.out] at this
          omega
      have hpz : p + z ≤ N := by
        rw [← HP.out, ← HN.out, ← Nat.succ_mul]; exact Nat.mul_le_mul_right _ hdu
      have hT := chunk_txt (w := wr) (o := oG) (c := cG) HP.out (by omega) (by rw [HG.out, HN.out]) hdu (Nat.lt_of_lt_of_le hgG hsz) (fun j h => by
        obtain ⟨a', o', c', e, _, _, hj⟩ := htx.txt.isSome (by rw [HG.out]; omega)
        rw [HG.out] at e
        cases e
        exact hj j h)
      have hcl := chunk_len (z := z) (d := d) (show G.length = u * z by rw [HG.out, HN.out]) hdu
      have hcs : ∀ s ∈ chunk G z d, s.size ≤ 100000 := fun s hs => Nat.le_trans (HSZ.out s (List.mem_of_mem_drop (List.mem_of_mem_take hs))) (by decide)
      have hpL : p < L.length := by rw [HL.out]; exact hlt
      obtain ⟨x, hx⟩ : ∃ x, L[p] = x := ⟨_, rfl⟩
      have hxc : wr.cell? ⟨g, p * 4, none⟩ = some (.int .i64 x.dev) := by
        obtain ⟨g', c', e, _, _, hA⟩ := hcols.some (by omega)
        rw [HL.out] at e
        cases e
        rw [← hx]
        exact (hA.at_ p hpL).c0
      have hgl : g < wr.heap.size := by
        obtain ⟨g', c', e, _, _, hA⟩ := hcols.some (by omega)
        rw [HL.out] at e
        cases e
        exact hA.lt
      have HTR : Hid (tryOf (devAt L (d * z)) (chunk G z d) = if holeL (chunk G z d) then none else some (x.dev, joinB (chunk G z d))) := Lib.hid (by
        rw [HP.out, devAt_eq hpL, hx]; rfl)
      have HRL : Hid (d < (List.range u).length) := Lib.hid (by simpa using hdu)
      have q1 : IntKind.i64.wrap ((p : Int) + (z : Int)) = (p : Int) + (z : Int) := by rw [IntKind.wrap_i64]; omega
      have q2 : ((p : Int) + (z : Int)).toNat = p + z := by omega
      have q3 : (p : Int) + (z : Int) ≤ cG := by omega
      have q4 : ¬ p = cG := by omega
      have q5 : p + z - p = z := by omega
      have hb1 : b1 < wr.heap.size := Nat.lt_of_lt_of_le HM.out.l1.2 hsz
      have hb2 : b2 < wr.heap.size := Nat.lt_of_lt_of_le HM.out.l2.2 hsz
      clear hpL hx hcols htx
      cases hh : holeL (chunk G z d) with
      | true =>
        have HJN := Lib.hid (joined_no _ _ wr hT (by rw [hcl]; omega) hcs hh)
        have HF := Lib.hid (fm_none (fun d => tryOf (devAt L (d * z)) (chunk G z d)) (List.range u) HRL.out (by simp only [List.getElem_range]; rw [HTR.out, hh]; rfl))
        clear hcl hT hcs hh
        gi_wp2_with fail
        refine ⟨trivial, ?_⟩
        refine (callsIn_wide.2 HJN.out).mono ?_
        rintro e w1 ⟨rfl, b1'⟩
        have k11 := (b1'.cell (p := ⟨b1, 0, none⟩) hb1).trans k1
        have k12 := (b1'.cell (p := ⟨b2, 0, none⟩) hb2).trans k2
        have HJ1 := Lib.hid (HJ.out _ _ _ HJd.out (b1'.mono HWS.out))
        have hs1 := b1'.size
        clear k1 k2 k3 hxc b1' hgl hb1 hb2
        gi_wp2_with fail
        refine ⟨fun f hf => (by cases hf), ?_⟩
        gi_wp2
        go_roundw
        case rel => exact ⟨d + 1, p + z, hdu, by rw [Nat.succ_mul, HP.out], hpz, by go_num, Lib.hid (by rw [HF.out]; exact HJ1.out), Lib.hid (Nat.le_trans HWS.out hs1)⟩
        case measure => simp [intOf]; omega
      | false =>
        have HJN := Lib.hid (joined_yes _ _ wr hT (by rw [hcl]; omega) hcs hh)
        obtain ⟨hat, hne⟩ := fm_some (fun d => tryOf (devAt L (d * z)) (chunk G z d)) (List.range u) (x := (x.dev, joinB (chunk G z d))) HRL.out (by simp only [List.getElem_range]; rw [HTR.out, hh]; rfl)
        have HNE := Lib.hid hne
        have HAT := Lib.hid hat
        clear hcl hT hcs hh hne hat
        generalize joinB (chunk G z d) = tx at HAT HJN
        gi_wp2_with fail
        refine ⟨trivial, ?_⟩
        refine (callsIn_wide.2 HJN.out).mono ?_
        rintro e w1 ⟨rfl, b1'⟩
        have hx1 := (b1'.cell (p := ⟨g, p * 4, none⟩) hgl).trans hxc
        have k11 := (b1'.cell (p := ⟨b1, 0, none⟩) hb1).trans k1
        have k12 := (b1'.cell (p := ⟨b2, 0, none⟩) hb2).trans k2
        have HJ1 := Lib.hid (HJ.out _ _ _ HJd.out (b1'.mono HWS.out))
        have hs1 := b1'.size
        clear k1 k2 k3 hxc b1' hgl hb1 hb2
        obtain ⟨fn, tmps, assign, body, hy, hR⟩ := HY.out _ _ w1 HAT.out HJ1.out
        have HRR := Lib.hid hR
        clear hR
        unfold encT at hy
        gi_wp2_with fail
        refine HRR.out.mono ?_
        rintro e w4 (⟨rfl, hJ4, hs4⟩ | ⟨rfl, hx4⟩)
        · have HJ4 := Lib.hid hJ4
          have k24 := (HM.out.since (HJS.out _ _ hJ4)).c2
          have HS4 := Lib.hid hs4.size
          clear hJ4 hs4 k11 k12 hx1
          gi_wp2
          go_roundw
          case rel => exact ⟨d + 1, p + z, hdu, by rw [Nat.succ_mul, HP.out], hpz, by go_num, Lib.hid (by rw [HNE.out]; exact HJ4.out), Lib.hid (Nat.le_trans HWS.out (Nat.le_trans hs1 HS4.out))⟩
          case measure => simp [intOf]; omega
        · gi_wp2
          refine bodyPost_ret (results_none rfl _ _ _) rfl ?_
          exact ⟨⟨_, rfl⟩, .inr ⟨_, by rw [← HNE.out]; exact fm_le _ _ _, hx4⟩⟩
    · have hpe : p = N := by omega
      have hde : d = u := by
        have h1 := HP.out
        rw [hpe, ← HN.out] at h1
        exact Nat.eq_of_mul_eq_mul_right hz1 h1
      have HE := Lib.hid hde
      gi_wp2
      go_end0
      refine ⟨⟨_, rfl⟩, .inl ?_⟩
      have h1 := HJd.out
      rw [HE.out] at h1
      have h2 := fm_all (fun d => tryOf (devAt L (d * z)) (chunk G z d)) (List.range u)
      rw [List.length_range] at h2
      rw [h2] at h1
      exact h1
end Go.Proofs.Ytpalgadokdcgnaa

/- code.ofParity: the function that it answers hands out the tries of a Parity's columns. -/
namespace Go.Proofs.Ytpalgadokdcgnaa
set_option maxRecDepth 100000
open Go.RowKit Go.Shelf M
attribute [local go_sem] Oper.semAt_some

/-- What a Parity's function holds. -/
structure ParS (w : World) (B b1 b2 b3 : Nat) (vD vL vG : Value) (D : List Int) (L : List C) (G : List ByteArray) : Prop where
  c1 : w.cell? ⟨b1, 0, none⟩ = some vD
  c2 : w.cell? ⟨b2, 0, none⟩ = some vL
  c3 : w.cell? ⟨b3, 0, none⟩ = some vG
  l1 : B ≤ b1 ∧ b1 < w.heap.size
  l2 : B ≤ b2 ∧ b2 < w.heap.size
  l3 : B ≤ b3 ∧ b3 < w.heap.size
  devs : OwnI B w vD D
  cols : OwnC B w vL L
  txts : Own w B vG G
theorem ParS.since {w w' : World} {B b1 b2 b3 : Nat} {vD vL vG : Value} {D : List Int} {L : List C} {G : List ByteArray} (h : ParS w B b1 b2 b3 vD vL vG D L G) (hs : Since B w w') : ParS w' B b1 b2 b3 vD vL vG D L G :=
  ⟨by rw [hs.cell (p := ⟨b1, 0, none⟩) h.l1.1 h.l1.2]; exact h.c1, by rw [hs.cell (p := ⟨b2, 0, none⟩) h.l2.1 h.l2.2]; exact h.c2, by rw [hs.cell (p := ⟨b3, 0, none⟩) h.l3.1 h.l3.2]; exact h.c3,
    ⟨h.l1.1, Nat.lt_of_lt_of_le h.l1.2 hs.size⟩, ⟨h.l2.1, Nat.lt_of_lt_of_le h.l2.2 hs.size⟩, ⟨h.l3.1, Nat.lt_of_lt_of_le h.l3.2 hs.size⟩, h.devs.since hs, h.cols.since hs, h.txts.since hs⟩
theorem OwnI.at_ {w : World} {B : Nat} {v : Value} {zs : List Int} (h : OwnI B w v zs) (h0 : 0 < zs.length) : ∃ g c, v = .slice (some ⟨g, 0, none⟩) zs.length c ∧ zs.length ≤ c ∧ B ≤ g ∧ g < w.heap.size ∧ ∀ j (h : j < zs.length), w.cell? ⟨g, j, none⟩ = some (.int .i64 zs[j]) := by
  have hv := h.v
  rcases h.2 with ⟨_, hn⟩ | ⟨g, cap, cur, rfl, hB, hb, hnc, _⟩
  · omega
  · refine ⟨g, cap, rfl, hnc, hB, (Array.getElem?_eq_some_iff.1 hb).1, fun j hj => ?_⟩
    obtain ⟨a, n, c, e, _, _, hc⟩ := hv
    cases e
    obtain ⟨g', e', _, hx⟩ := hc j hj
    cases e'
    exact hx
theorem mkB_small {l : List ByteArray} {N : Nat} (h : ∀ s ∈ l, s.size ≤ N) : (mkB l).size ≤ N := by
  unfold mkB
  split
  · rw [parB_size]
    unfold wide
    cases l with
    | nil => exact Nat.zero_le _
    | cons s r => exact h s List.mem_cons_self
  · exact Nat.zero_le _
theorem wth_small {L : List C} {G : List ByteArray} {d : Int} {k N : Nat} (hG : ∀ s ∈ G, s.size ≤ N) : ∀ s ∈ wth L G d k, s.size ≤ N := by
  intro s hs
  obtain ⟨j, _, rfl⟩ := List.mem_map.1 hs
  show (if devAt L j = d then agn L G j else G.getD j ⟨#[]⟩).size ≤ N
  split
  · unfold agn
    exact mkB_small fun s hs => rowG_mem hG s (List.mem_of_mem_eraseIdx hs)
  · rw [List.getD_eq_getElem?_getD]
    cases h : G[j]? with
    | none => exact Nat.zero_le _
    | some t => exact hG t (List.mem_of_getElem? h)

set_option maxHeartbeats 2000000 in
theorem par2_hands (n : Nat) (hn : 1 ≤ n) (w : World) (B b1 b2 b3 : Nat) (vD vL vG : Value) (D : List Int) (L : List C) (G : List ByteArray) (hM : ParS w B b1 b2 b3 vD vL vG D L G) (hD0 : 0 < D.length) (hD : D.length ≤ 1000) (h0L : 0 < L.length) (hlL : L.length ≤ 100) (hp2 : Paired L) (hG : G.length = L.length) (hs : ∀ s ∈ G, s.size ≤ 1000) :
    HandsS Fence.wide n Try.prog 51 #[.pointer (some ⟨b1, 0, none⟩), .pointer (some ⟨b2, 0, none⟩), .pointer (some ⟨b3, 0, none⟩)] encT (triesP L G D) B w := fun l J Jx W hW hJ hJx hJS hY h0 => by
  refine callsIn_of_wp Try.func51 rfl trivial ?_ rfl
  simp only [Try.ntmps51, List.size_toArray, List.length_cons, List.length_nil, Nat.reduceAdd, Nat.reduceSub, Array.replicate_succ, Array.replicate_zero, List.push_toArray, List.append_toArray, List.nil_append, List.cons_append]
  obtain ⟨f, hf⟩ : ∃ f : Int → Option (Int × ByteArray), f = fun d => tryOf d (wth L G d L.length) := ⟨_, rfl⟩
  have HFT : Hid (triesP L G D = D.filterMap f) := Lib.hid (by rw [hf]; rfl)
  have HF := Lib.hid hf
  obtain ⟨gD, cD, rfl, hcD, hgB, hgl, hcd⟩ := hM.devs.at_ hD0
  obtain ⟨m, hm⟩ : ∃ m, D.length = m := ⟨_, rfl⟩
  rw [hm] at hcD hD hD0
  have HM := Lib.hid hM
  rw [hm] at HM
  have HY := Lib.hid hY
  have HJ := Lib.hid hJ
  have HJS := Lib.hid hJS
  have HN := Lib.hid hm
  have HG := Lib.hid hG
  have HSZ := Lib.hid hs
  have HJ0 := Lib.hid h0
  have HL0 := Lib.hid h0L
  have HLL := Lib.hid hlL
  have HP2 := Lib.hid hp2
  have k0 := (HM.out.since hW).c1
  clear hY hJ hJx hJS hm hG hM h0 hs hf hcd h0L hlL hp2
  gi_wp2_with fail
  clear k0
  gi_loopw [11] (fun i11 wr => ∃ j : Nat, j ≤ m ∧ i11 = .int .i64 (j : Int) ∧ Hid (J (fmN f D j) wr) ∧ Hid (W.heap.size ≤ wr.heap.size)) (fun i _ => m - (intOf i).toNat)
  case atStart => exact ⟨0, Nat.zero_le _, rfl, Lib.hid (by rw [fm_zero]; exact HJ0.out), Lib.hid (Nat.le_refl _)⟩
  case round =>
    obtain ⟨j, hj, rfl, HJd, HWS⟩ := hrel
    by_cases hlt : j < m
    · have hjD : j < D.length := by rw [HN.out]; exact hlt
      have hK := HM.out.since (HJS.out _ _ HJd.out)
      have hsz := (HJS.out _ _ HJd.out).size
      have hb2 : b2 < wr.heap.size := hK.l2.2
      have hb3 : b3 < wr.heap.size := hK.l3.2
      obtain ⟨-, k2, k3, -, -, -, hdv, hcols, htx⟩ := hK
      obtain ⟨d, hd⟩ : ∃ d, D[j] = d := ⟨_, rfl⟩
      have kd : wr.cell? ⟨gD, j, none⟩ = some (.int .i64 d) := by
        obtain ⟨g', c', e, _, _, _, hc⟩ := hdv.at_ (by omega)
        rw [HN.out] at e
        cases e
        rw [← hd]
        exact hc j hjD
      obtain ⟨aL, nL, cL, rfl, -⟩ := hcols.v
      obtain ⟨aG, cG, eG, -⟩ := htx.txt
      generalize G.length = nG at eG
      subst eG
      have HWI := Lib.hid (without_any L G _ _ wr hcols.v htx.txt HG.out HL0.out HLL.out HP2.out (fun s hs => Nat.le_trans (HSZ.out s hs) (by decide)) d)
      have HFJ : Hid (∀ h : j < D.length, f D[j] = if holeL (wth L G d L.length) then none else some (d, joinB (wth L G d L.length))) := Lib.hid (fun _ => by rw [hd, HF.out]; rfl)
      have HJD := Lib.hid hjD
      clear hdv hcols htx hd hjD
      gi_wp2_with fail
      refine ⟨trivial, ?_⟩
      refine (callsIn_wide.2 HWI.out).mono ?_
      rintro e w1 ⟨v1, rfl, hT1, b1'⟩
      obtain ⟨a1, c1, e1, -⟩ := id hT1
      generalize (wth L G d L.length).length = n1 at e1
      subst e1
      have hl1 : (wth L G d L.length).length ≤ 100000 := Nat.le_trans (wth_len L G d _) (by have := HLL.out; omega)
      have hz1 : ∀ s ∈ wth L G d L.length, s.size ≤ 100000 := fun s hs => Nat.le_trans (wth_small HSZ.out s hs) (by decide)
      have hs1 := b1'.size
      have HJ1 := Lib.hid (HJ.out _ _ _ HJd.out (b1'.mono HWS.out))
      have HWS1 : Hid (W.heap.size ≤ w1.heap.size) := Lib.hid (Nat.le_trans HWS.out hs1)
      clear b1' k2 k3 kd
      cases hh : holeL (wth L G d L.length) with
      | true =>
        have HJN := Lib.hid (joined_no _ _ w1 hT1 hl1 hz1 hh)
        have HNX := Lib.hid (fm_none f D HJD.out (by rw [HFJ.out, hh]; rfl))
        clear hh hT1 hl1 hz1
        gi_wp2_with fail
        refine ⟨trivial, ?_⟩
        refine (callsIn_wide.2 HJN.out).mono ?_
        rintro e w2 ⟨rfl, b2'⟩
        have HJ2 := Lib.hid (HJ.out _ _ _ HJ1.out (b2'.mono HWS1.out))
        have hs2 := b2'.size
        clear b2'
        gi_wp2_with fail
        refine ⟨fun f hf => (by cases hf), ?_⟩
        gi_wp2
        go_roundw
        case rel => exact ⟨j + 1, hlt, by go_num, Lib.hid (by rw [HNX.out]; exact HJ2.out), Lib.hid (Nat.le_trans HWS1.out hs2)⟩
        case measure => simp [intOf]; omega
      | false =>
        have HJN := Lib.hid (joined_yes _ _ w1 hT1 hl1 hz1 hh)
        obtain ⟨hat, hne⟩ := fm_some f D (x := (d, joinB (wth L G d L.length))) HJD.out (by rw [HFJ.out, hh]; rfl)
        rw [← HFT.out] at hat
        have HNE := Lib.hid hne
        have HAT := Lib.hid hat
        clear hh hT1 hl1 hz1 hne hat
        generalize joinB (wth L G d L.length) = tx at HAT HJN
        gi_wp2_with fail
        refine ⟨trivial, ?_⟩
        refine (callsIn_wide.2 HJN.out).mono ?_
        rintro e w2 ⟨rfl, b2'⟩
        have HJ2 := Lib.hid (HJ.out _ _ _ HJ1.out (b2'.mono HWS1.out))
        have hs2 := b2'.size
        clear b2'
        obtain ⟨fn, tmps, assign, body, hy, hR⟩ := HY.out _ _ w2 HAT.out HJ2.out
        have HRR := Lib.hid hR
        clear hR
        unfold encT at hy
        gi_wp2_with fail
        refine HRR.out.mono ?_
        rintro e w4 (⟨rfl, hJ4, hs4⟩ | ⟨rfl, hx4⟩)
        · have HJ4 := Lib.hid hJ4
          have HS4 := Lib.hid hs4.size
          clear hJ4 hs4
          gi_wp2
          go_roundw
          case rel => exact ⟨j + 1, hlt, by go_num, Lib.hid (by rw [HNE.out]; exact HJ4.out), Lib.hid (Nat.le_trans HWS1.out (Nat.le_trans hs2 HS4.out))⟩
          case measure => simp [intOf]; omega
        · gi_wp2
          refine bodyPost_ret (results_none rfl _ _ _) rfl ?_
          exact ⟨⟨_, rfl⟩, .inr ⟨_, by rw [← HNE.out, HFT.out]; exact fm_le _ _ _, hx4⟩⟩
    · obtain rfl : j = m := by omega
      gi_wp2
      go_end0
      refine ⟨⟨_, rfl⟩, .inl ?_⟩
      have h1 := HJd.out
      rw [← HN.out, fm_all, ← HFT.out] at h1
      exact h1
end Go.Proofs.Ytpalgadokdcgnaa
