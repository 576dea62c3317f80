/-
  par.Again: what it answers.
  Contracts of the kit's shelf, laid at this seat's dump (plain mode of the kit's own script).
  code's small calls: a sector, a list that lacks one, texts one behind the other.
  An own slice of numbers.
  Texts, and rows of texts, that are the call's own.
  code.again, code.without: a column made again; a device's columns made again.
  A region that draws its order, whose last operation may write what others read: an operation that yields its value wherever S holds may be taken first; S is to be shown behind each operation but that last one.
  code.Encode: a block's columns' texts.
  code.Encode, walked.
  code.Encode of any block.
  vdev.encoded, spared.
  vdev.Write: what becomes of the devices; the walk.
-/
import Derived.Test.YtlhnmcopioeboaaGreatMc
import Derived.Shelf.Strings.Builder1
import Derived.Shelf.Strings.Builder2
import Derived.Shelf.Strings.OnBuilder
import Derived.Shelf.Sort.Plain
import Derived.Ground.Names2Prog
import Derived.Shelf.Slices.CompactI
import Derived.Shelf.Slices.In.SortNone
import Derived.Test.YtlhnmcopioeboaaGreatProg
import Derived.Test.YtlhnmcopioeboaaGreatChecked
import Derived.OrdersHeld
import Derived.Deep.RegionHeld

/- par.Again: what it answers. -/
namespace Go.Proofs.YtlhnmcopioeboaaGreat
set_option maxRecDepth 100000
open Go.RowKit M

/-- The texts but one, put together: the one is the last, and no room lies behind it. -/
theorem cat_last (l : List ByteArray) (g o c n k : Nat) (w : World) (hl : l.length = n) (hcc : n ≤ c) (hg : g < w.heap.size) (hc : ∀ j (h : j < l.length), w.cell? ⟨g, o + j, none⟩ = some (.string l[j])) (hk : k + 1 = c) (hkn : k < n) (hn : 2 ≤ n) (hm : n ≤ 4294967295) :
    Calls Tryz.prog 94 #[.slice (some ⟨w.heap.size, 0, none⟩) 2 2] (w.alloc (.cells #[.slice (some ⟨g, o, none⟩) k c, .slice (some ⟨g, o, none⟩) 0 0] 37)).drew fun e w' =>
      ∃ a c', e = .returned (.slice a (k + 0) c') ∧ Txt w' (.slice a (k + 0) c') (l.eraseIdx k) ∧ Below w.heap.size w w' := by
  have HD : l.drop (k + 1) = [] := List.drop_eq_nil_of_le (by omega)
  have b1 : Below w.heap.size w (w.alloc (.cells #[.slice (some ⟨g, o, none⟩) k c, .slice (some ⟨g, o, none⟩) 0 0] 37)).drew := ((Below.refl _ w).alloc (Nat.le_refl _) _).drew
  have hT1 := txt_take (k := k) (c := c) (l := l) (by omega) (by omega) (Nat.lt_of_lt_of_le hg b1.size) fun j hj => by rw [b1.cell (p := ⟨g, o + j, none⟩) hg]; exact hc j hj
  have hcon := concat_any (l.take k) [] (some ⟨g, o, none⟩) (some ⟨g, o, none⟩) k c 0 0 w.heap.size _ hT1 (txt_empty _ _ _) (by simp) (by simp) (by simp) (by omega) (by omega)
  rw [← HD, ← List.eraseIdx_eq_take_drop_succ] at hcon
  exact hcon.mono fun e w' ⟨a, c', h1, h2, h3⟩ => ⟨a, c', h1, h2, early2 b1 h3⟩
/-- The same, the one being any other. -/
theorem cat_mid (l : List ByteArray) (g o c n k : Nat) (w : World) (hl : l.length = n) (hcc : n ≤ c) (hg : g < w.heap.size) (hc : ∀ j (h : j < l.length), w.cell? ⟨g, o + j, none⟩ = some (.string l[j])) (hkn : k < n) (hn : 2 ≤ n) (hm : n ≤ 4294967295) :
    Calls Tryz.prog 94 #[.slice (some ⟨w.heap.size, 0, none⟩) 2 2] (w.alloc (.cells #[.slice (some ⟨g, o, none⟩) k c, .slice (some ⟨g, o + (k + 1), none⟩) (n - (k + 1)) (c - (k + 1))] 37)).drew fun e w' =>
      ∃ a c', e = .returned (.slice a (k + (n - (k + 1))) c') ∧ Txt w' (.slice a (k + (n - (k + 1))) c') (l.eraseIdx k) ∧ Below w.heap.size w w' := by
  have b1 : Below w.heap.size w (w.alloc (.cells #[.slice (some ⟨g, o, none⟩) k c, .slice (some ⟨g, o + (k + 1), none⟩) (n - (k + 1)) (c - (k + 1))] 37)).drew := ((Below.refl _ w).alloc (Nat.le_refl _) _).drew
  have hgW := Nat.lt_of_lt_of_le hg b1.size
  have hcW : ∀ j (h : j < l.length), (w.alloc (.cells #[.slice (some ⟨g, o, none⟩) k c, .slice (some ⟨g, o + (k + 1), none⟩) (n - (k + 1)) (c - (k + 1))] 37)).drew.cell? ⟨g, o + j, none⟩ = some (.string l[j]) :=
    fun j hj => by rw [b1.cell (p := ⟨g, o + j, none⟩) hg]; exact hc j hj
  have hcon := concat_any (l.take k) (l.drop (k + 1)) (some ⟨g, o, none⟩) (some ⟨g, o + (k + 1), none⟩) k c (n - (k + 1)) (c - (k + 1)) w.heap.size _ (txt_take (by omega) (by omega) hgW hcW) (txt_drop hl hcc hgW hcW)
    (by simp) (by simp) (by simp) (by omega) (by omega)
  rw [← List.eraseIdx_eq_take_drop_succ] at hcon
  exact hcon.mono fun e w' ⟨a, c', h1, h2, h3⟩ => ⟨a, c', h1, h2, early2 b1 h3⟩

set_option maxHeartbeats 4000000 in
theorem again_any (l : List ByteArray) (a : Option Addr) (n c : Nat) (at_ : Int) (w : World) (h : Txt w (.slice a n c) l) (hm : n ≤ 4294967295) (hz : ∀ s ∈ l, s.size ≤ maxLen) (k : Nat) (hk : at_ = k) (hkn : k < n) (hn : 2 ≤ n) :
    Calls Tryz.prog 80 #[.slice a n c, .int .i64 at_] w fun e w' => e = .returned (.tuple #[.string (mkB (l.eraseIdx k)), .int .i64 (mkE (l.eraseIdx k))]) ∧ Below w.heap.size w w' := by
  subst hk
  have HL := Lib.hid h.len
  obtain ⟨g, o, c', e, hcc, hg, hcell⟩ := h.isSome (by rw [HL.out]; omega)
  simp only [Value.slice.injEq] at e
  obtain ⟨rfl, -, rfl⟩ := e
  rw [HL.out] at hcc
  have HZ := Lib.hid hz
  have HC := Lib.hid hcell
  clear hcell hz h
  have hd1 : decide ((n : Int) < 2) = false := by rw [decide_eq_false_iff_not]; omega
  have hd2 : decide ((k : Int) < 0) = false := by rw [decide_eq_false_iff_not]; omega
  have hd3 : decide ((n : Int) ≤ (k : Int)) = false := by rw [decide_eq_false_iff_not]; omega
  go_enter Tryz.func80, Tryz.ntmps80
  go_wp2_with fail
  by_cases hc1 : k + 1 = c
  · subst hc1
    obtain rfl : n = k + 1 := by omega
    have q0 : IntKind.i64.wrap ((k : Int) + 1) = (k : Int) + 1 := by rw [IntKind.wrap_i64]; omega
    have q3 : ((k : Int) + 1).toNat = k + 1 := by omega
    have q7 : 0 ≤ (k : Int) + 1 := by omega
    have q6 : (k : Int) + 1 ≤ ((k + 1 : Nat) : Int) := by omega
    go_region_with (first
      | (go_at_call 94; refine (cat_last l g o (k + 1) (k + 1) k w HL.out hcc hg HC.out rfl hkn hn hm).mono ?_; rintro e w2 ⟨a2, c2, rfl, hT2, b2⟩)
      | (go_at_call 19; refine (make_any (l.eraseIdx k) _ _ hT2 (by rw [List.length_eraseIdx_of_lt (by rw [HL.out]; exact hkn), HL.out]; unfold maxLen; omega) (fun s hs => HZ.out s (mem_erase hs))).mono ?_; rintro e w3 ⟨rfl, b3⟩))
    go_wp2
    go_ret2
    exact ⟨rfl, early2 b2 b3⟩
  · have q0 : IntKind.i64.wrap ((k : Int) + 1) = (k : Int) + 1 := by rw [IntKind.wrap_i64]; omega
    have q3 : ((k : Int) + 1).toNat = k + 1 := by omega
    have q4 : ¬ c = k + 1 := fun e => hc1 e.symm
    have q5 : k ≤ c := by omega
    have q6 : (k : Int) + 1 ≤ (n : Int) := by omega
    have q7 : 0 ≤ (k : Int) + 1 := by omega
    go_region_with (first
      | (go_at_call 94; refine (cat_mid l g o c n k w HL.out hcc hg HC.out hkn hn hm).mono ?_; rintro e w2 ⟨a2, c2, rfl, hT2, b2⟩)
      | (go_at_call 19; refine (make_any (l.eraseIdx k) _ _ hT2 (by rw [List.length_eraseIdx_of_lt (by rw [HL.out]; exact hkn), HL.out]; unfold maxLen; omega) (fun s hs => HZ.out s (mem_erase hs))).mono ?_; rintro e w3 ⟨rfl, b3⟩))
    go_wp2
    go_ret2
    exact ⟨rfl, early2 b2 b3⟩
end Go.Proofs.YtlhnmcopioeboaaGreat

/- Contracts of the kit's shelf, laid at this seat's dump (plain mode of the kit's own script). -/
namespace Go.Proofs
open Go.Shelf
def Tryz.lays156_ren : Go.Shelf.Ren := ⟨fun | 156 => 68 | 165 => 75 | 166 => 76 | 169 => 77 | 240 => 81 | 241 => 82 | 276 => 95 | 277 => 96 | n => n, fun | 31 => 37 | 9 => 9 | 3 => 3 | 4 => 4 | 0 => 0 | 20 => 20 | 72 => 126 | 76 => 130 | 70 => 124 | 37 => 53 | 75 => 129 | 127 => 137 | 164 => 152 | 5 => 5 | 80 => 132 | n => n, fun | n => n⟩
theorem Tryz.lays156 : Go.Proofs.Lays.n156 Tryz.prog Tryz.lays156_ren := {
  mixed := by kernel_rfl
  f156 := Tryz.func68.trans (congrArg some (by kernel_rfl))
  f165 := Tryz.func75.trans (congrArg some (by kernel_rfl))
  f166 := Tryz.func76.trans (congrArg some (by kernel_rfl))
  f169 := Tryz.func77.trans (congrArg some (by kernel_rfl))
  f240 := Tryz.func81.trans (congrArg some (by kernel_rfl))
  f241 := Tryz.func82.trans (congrArg some (by kernel_rfl))
  f276 := Tryz.func95.trans (congrArg some (by kernel_rfl))
  f277 := Tryz.func96.trans (congrArg some (by kernel_rfl))
  t0 := Tryz.underlying0
  a0 := Tryz.isAgg0
  z0 := Tryz.sizeOf0
  v0 := Tryz.zeroValue0
  t3 := Tryz.underlying3
  a3 := Tryz.isAgg3
  z3 := Tryz.sizeOf3
  v3 := Tryz.zeroValue3
  t4 := Tryz.underlying4
  a4 := Tryz.isAgg4
  z4 := Tryz.sizeOf4
  v4 := Tryz.zeroValue4
  t9 := Tryz.underlying9
  a9 := Tryz.isAgg9
  z9 := Tryz.sizeOf9
  v9 := Tryz.zeroValue9
  t20 := Tryz.underlying20
  a20 := Tryz.isAgg20
  z20 := Tryz.sizeOf20
  v20 := Tryz.zeroValue20
  t31 := Tryz.underlying37
  a31 := Tryz.isAgg37
  z31 := Tryz.sizeOf37
  v31 := Tryz.zeroValue37
  t37 := Tryz.underlying53
  a37 := Tryz.isAgg53
  z37 := Tryz.sizeOf53
  v37 := Tryz.zeroValue53
  t70 := Tryz.underlying124
  a70 := Tryz.isAgg124
  z70 := Tryz.sizeOf124
  v70 := Tryz.zeroValue124
  t72 := Tryz.underlying126
  a72 := Tryz.isAgg126
  z72 := Tryz.sizeOf126
  v72 := Tryz.zeroValue126
  t75 := Tryz.underlying129
  a75 := Tryz.isAgg129
  z75 := Tryz.sizeOf129
  v75 := Tryz.zeroValue129
  t76 := Tryz.underlying130
  a76 := Tryz.isAgg130
  z76 := Tryz.sizeOf130
  v76 := Tryz.zeroValue130
  t127 := Tryz.underlying137
  a127 := Tryz.isAgg137
  z127 := Tryz.sizeOf137
  v127 := Tryz.zeroValue137
  t164 := Tryz.underlying152
  a164 := Tryz.isAgg152
  z164 := Tryz.sizeOf152
  v164 := Tryz.zeroValue152 }
theorem Tryz.Builder_Extra_156 : Builder.Extra Tryz.prog Tryz.lays156_ren := {
  sizeBuilder := by kernel_rfl
  liesBuilder := by kernel_rfl
  t5 := Tryz.underlying5
  a5 := Tryz.isAgg5
  z5 := Tryz.sizeOf5
  v5 := Tryz.zeroValue5
  infoByte := by kernel_rfl
  cellsByte := by kernel_rfl
  sizeByte := by kernel_rfl
  neB5 := by decide }
open Go.RowKit in
theorem Tryz.strings_Join_none (a : Option Addr) (c : Nat) (sep : ByteArray) (w : World) :
    Calls Tryz.prog 68 #[.slice a 0 c, .string sep] w fun e w' => e = .returned (.string ⟨#[]⟩) ∧ w' = w := Any.strings_Join_none Tryz.lays156 Tryz.Builder_Extra_156 a c sep w
open Go.RowKit in
theorem Tryz.strings_Join (bk o c : Nat) (xs : List ByteArray) (sep : ByteArray) (w : World) (hcells : ∀ (j : Nat) x, xs[j]? = some x → w.cell? ⟨bk, o + j, none⟩ = some (.string x)) (hbk : bk < w.heap.size) (hN : xs.length ≤ 140737488355328) (hcap : xs.length ≤ c) (hlen : (Lib.join (xs.map (·.data.toList)) sep.data.toList).length ≤ 140737488355328) :
    Calls Tryz.prog 68 #[.slice (some ⟨bk, o, none⟩) xs.length c, .string sep] w fun e w' => e = .returned (.string ⟨(Lib.join (xs.map (·.data.toList)) sep.data.toList).toArray⟩) ∧ Below w.heap.size w w' := Any.strings_Join Tryz.lays156 Tryz.Builder_Extra_156 bk o c xs sep w hcells hbk hN hcap hlen
def Tryz.lays189_ren : Go.Shelf.Ren := ⟨fun | 189 => 70 | 125 => 79 | 257 => 78 | 128 => 92 | 129 => 93 | 294 => 83 | 295 => 84 | 296 => 85 | 297 => 86 | 298 => 87 | 299 => 88 | 216 => 89 | 300 => 90 | 301 => 91 | 328 => 97 | 329 => 98 | 330 => 99 | 331 => 100 | 332 => 101 | 215 => 102 | 343 => 104 | n => n, fun | 28 => 105 | 3 => 3 | 46 => 135 | 0 => 0 | 51 => 148 | 53 => 150 | 4 => 4 | 183 => 140 | 182 => 139 | 131 => 145 | 5 => 5 | 9 => 9 | 218 => 155 | 222 => 159 | 228 => 163 | 229 => 164 | n => n, fun | n => n⟩
theorem Tryz.lays189 : Go.Proofs.Lays.n189 Tryz.prog Tryz.lays189_ren := {
  mixed := by kernel_rfl
  f125 := Tryz.func79.trans (congrArg some (by kernel_rfl))
  f128 := Tryz.func92.trans (congrArg some (by kernel_rfl))
  f129 := Tryz.func93.trans (congrArg some (by kernel_rfl))
  f189 := Tryz.func70.trans (congrArg some (by kernel_rfl))
  f215 := Tryz.func102.trans (congrArg some (by kernel_rfl))
  f216 := Tryz.func89.trans (congrArg some (by kernel_rfl))
  f257 := Tryz.func78.trans (congrArg some (by kernel_rfl))
  f294 := Tryz.func83.trans (congrArg some (by kernel_rfl))
  f295 := Tryz.func84.trans (congrArg some (by kernel_rfl))
  f296 := Tryz.func85.trans (congrArg some (by kernel_rfl))
  f297 := Tryz.func86.trans (congrArg some (by kernel_rfl))
  f298 := Tryz.func87.trans (congrArg some (by kernel_rfl))
  f299 := Tryz.func88.trans (congrArg some (by kernel_rfl))
  f300 := Tryz.func90.trans (congrArg some (by kernel_rfl))
  f301 := Tryz.func91.trans (congrArg some (by kernel_rfl))
  f328 := Tryz.func97.trans (congrArg some (by kernel_rfl))
  f329 := Tryz.func98.trans (congrArg some (by kernel_rfl))
  f330 := Tryz.func99.trans (congrArg some (by kernel_rfl))
  f331 := Tryz.func100.trans (congrArg some (by kernel_rfl))
  f332 := Tryz.func101.trans (congrArg some (by kernel_rfl))
  f343 := Tryz.func104.trans (congrArg some (by kernel_rfl))
  t0 := Tryz.underlying0
  a0 := Tryz.isAgg0
  z0 := Tryz.sizeOf0
  v0 := Tryz.zeroValue0
  t3 := Tryz.underlying3
  a3 := Tryz.isAgg3
  z3 := Tryz.sizeOf3
  v3 := Tryz.zeroValue3
  t4 := Tryz.underlying4
  a4 := Tryz.isAgg4
  z4 := Tryz.sizeOf4
  v4 := Tryz.zeroValue4
  t5 := Tryz.underlying5
  a5 := Tryz.isAgg5
  z5 := Tryz.sizeOf5
  v5 := Tryz.zeroValue5
  t9 := Tryz.underlying9
  a9 := Tryz.isAgg9
  z9 := Tryz.sizeOf9
  v9 := Tryz.zeroValue9
  t28 := Tryz.underlying105
  a28 := Tryz.isAgg105
  z28 := Tryz.sizeOf105
  v28 := Tryz.zeroValue105
  t46 := Tryz.underlying135
  a46 := Tryz.isAgg135
  z46 := Tryz.sizeOf135
  v46 := Tryz.zeroValue135
  t51 := Tryz.underlying148
  a51 := Tryz.isAgg148
  z51 := Tryz.sizeOf148
  v51 := Tryz.zeroValue148
  t53 := Tryz.underlying150
  a53 := Tryz.isAgg150
  z53 := Tryz.sizeOf150
  v53 := Tryz.zeroValue150
  t131 := Tryz.underlying145
  a131 := Tryz.isAgg145
  z131 := Tryz.sizeOf145
  v131 := Tryz.zeroValue145
  t182 := Tryz.underlying139
  a182 := Tryz.isAgg139
  z182 := Tryz.sizeOf139
  v182 := Tryz.zeroValue139
  t183 := Tryz.underlying140
  a183 := Tryz.isAgg140
  z183 := Tryz.sizeOf140
  v183 := Tryz.zeroValue140
  t218 := Tryz.underlying155
  a218 := Tryz.isAgg155
  z218 := Tryz.sizeOf155
  v218 := Tryz.zeroValue155
  t222 := Tryz.underlying159
  a222 := Tryz.isAgg159
  z222 := Tryz.sizeOf159
  v222 := Tryz.zeroValue159
  t228 := Tryz.underlying163
  a228 := Tryz.isAgg163
  z228 := Tryz.sizeOf163
  v228 := Tryz.zeroValue163
  t229 := Tryz.underlying164
  a229 := Tryz.isAgg164
  z229 := Tryz.sizeOf164
  v229 := Tryz.zeroValue164 }
open Go.Sort Go.RowKit in
theorem Tryz.slices_Sort_int (blk off cap : Nat) (zs : List Int) (w : World) (hH : Holds (Value.int .i64) w blk off zs.toArray) (hblk : blk < w.heap.size) (hsz : zs.length < 4611686018427387904) :
    Calls Tryz.prog 70 #[.slice (some ⟨blk, off, none⟩) zs.length cap] w fun e w' =>
      e = .returned (.tuple #[]) ∧ ∃ n os, w' = grow (putRow (Value.int .i64) (Sort.ahead w n) blk off (zs.mergeSort fun x y => decide (x ≤ y)).toArray) os := Any.slices_Sort_int Tryz.lays189 blk off cap zs w hH hblk hsz
def Tryz.laysNm220_ren : Go.Shelf.Ren := ⟨fun | 20 => 71 | n => n, fun | 22 => 105 | 3 => 3 | 4 => 4 | 0 => 0 | n => n, fun | n => n⟩
theorem Tryz.laysNm220 : Go.Proofs.Lays2.n20 Tryz.prog Tryz.laysNm220_ren := {
  mixed := by kernel_rfl
  f20 := Tryz.func71.trans (congrArg some (by kernel_rfl))
  t0 := Tryz.underlying0
  a0 := Tryz.isAgg0
  z0 := Tryz.sizeOf0
  v0 := Tryz.zeroValue0
  t3 := Tryz.underlying3
  a3 := Tryz.isAgg3
  z3 := Tryz.sizeOf3
  v3 := Tryz.zeroValue3
  t4 := Tryz.underlying4
  a4 := Tryz.isAgg4
  z4 := Tryz.sizeOf4
  v4 := Tryz.zeroValue4
  t22 := Tryz.underlying105
  a22 := Tryz.isAgg105
  z22 := Tryz.sizeOf105
  v22 := Tryz.zeroValue105
  i3 := by kernel_rfl }
open Go.RowKit Go.Lib Go.Sort in
theorem Tryz.slices_Compact_int (blk off cap : Nat) (zs : List Int) (w : World) (hH : Holds (Value.int .i64) w blk off zs.toArray) (hsz : zs.length ≤ 9223372036854775807) (hcap : zs.length ≤ cap) :
    Calls Tryz.prog 71 #[.slice (some ⟨blk, off, none⟩) zs.length cap] w fun e w' => e = .returned (.slice (some ⟨blk, off, none⟩) (Lib.compact zs).length cap) ∧ ∃ q, w' = putRow (Value.int .i64) (Sort.ahead w q) blk off (Lib.compact zs ++ List.replicate (zs.length - (Lib.compact zs).length) 0).toArray := Any.slices_Compact_int Tryz.laysNm220 blk off cap zs w hH hsz hcap
end Go.Proofs

/- code's small calls: a sector, a list that lacks one, texts one behind the other. -/
namespace Go.Proofs.YtlhnmcopioeboaaGreat
set_option maxRecDepth 100000
open Go.RowKit M

theorem sector_any (s : ByteArray) (i z : Nat) (w : World) (hs : s.size = z * 64) (hi : i < z) (hz : z ≤ 1000) :
    Calls Tryz.prog 18 #[.string s, .int .i64 (i : Int)] w fun e w' => e = .returned (.string (sect s i)) ∧ Below w.heap.size w w' := by
  have h1 : (i : Int) * 64 ≤ s.size := by omega
  have h2 : ((i : Int) + 1) * 64 ≤ s.size := by omega
  have q1 : ((i : Int) * 64).toNat = i * 64 := by omega
  have q2 : (((i : Int) + 1) * 64).toNat = (i + 1) * 64 := by omega
  have q3 : IntKind.i64.wrap ((i : Int) * 64) = (i : Int) * 64 := by rw [IntKind.wrap_i64]; omega
  have q4 : IntKind.i64.wrap ((i : Int) + 1) = (i : Int) + 1 := by rw [IntKind.wrap_i64]; omega
  have q5 : IntKind.i64.wrap (((i : Int) + 1) * 64) = ((i : Int) + 1) * 64 := by rw [IntKind.wrap_i64]; omega
  have q6 : (i : Int) * 64 ≤ ((i : Int) + 1) * 64 := by omega
  have hs2 : s.size ≤ 64000 := by omega
  clear hs
  go_enter Tryz.func18, Tryz.ntmps18
  go_wp2
  go_ret
  exact ⟨rfl, Below.refl _ _⟩

theorem no_txt (s : ByteArray) : s.toList.isEmpty = (s.size == 0) := by
  rw [ByteArray.toList_eq, sizeL]
  cases s.data.toList <;> simp
/-- None of the first k is nothing. -/
def fullTo (l : List ByteArray) (k : Nat) : Prop := ∀ j (h : j < l.length), j < k → l[j].size ≠ 0
theorem fullTo_all {l : List ByteArray} (h : fullTo l l.length) : holeL l = false := by
  unfold holeL
  rw [List.any_eq_false]
  intro s hs
  obtain ⟨j, hj, rfl⟩ := List.getElem_of_mem hs
  simpa using h j hj hj
theorem hole_at {l : List ByteArray} {k : Nat} (hk : k < l.length) (h : l[k].size = 0) : holeL l = true := by
  unfold holeL
  rw [List.any_eq_true]
  exact ⟨_, List.getElem_mem hk, by simp [h]⟩

set_option maxHeartbeats 1000000 in
theorem index_hole (l : List ByteArray) (v : Value) (w : World) (h : Txt w v l) (hm : l.length ≤ 100000) :
    Calls Tryz.prog 74 #[v, .string ⟨#[]⟩] w fun e w' =>
      ∃ k : Int, e = .returned (.int .i64 k) ∧ (holeL l = false → k = -1) ∧ (holeL l = true → 0 ≤ k) ∧ w = w' := by
  obtain ⟨a, c, rfl, hcc, hj⟩ := h
  have HJ := Lib.hid hj
  clear hj
  generalize hn : l.length = n at hm hcc
  have HN := Lib.hid hn
  clear hn
  go_enter Tryz.func74, Tryz.ntmps74
  go_wp2_with fail
  go_loop [8] (fun i => ∃ k : Nat, k ≤ n ∧ i = .int .i64 k ∧ Hid (fullTo l k)) (fun i => n - (intOf i).toNat)
  case atStart => exact ⟨0, Nat.zero_le _, rfl, Lib.hid fun j _ hj => absurd hj (Nat.not_lt_zero _)⟩
  case round =>
    obtain ⟨k, hk, rfl, H⟩ := hrel
    by_cases hlt : k < n
    · have hlt' : k < l.length := by rw [HN.out]; exact hlt
      obtain ⟨g, o, rfl, hg, hck⟩ := HJ.out k hlt'
      generalize hs : l[k] = s at hck
      have HS : Hid (∃ h : k < l.length, l[k] = s) := Lib.hid ⟨hlt', hs⟩
      clear hs hlt'
      have hq := no_txt s
      by_cases hz : s.size = 0
      · have hz' : s.toList.isEmpty = true := by rw [hq]; simp [hz]
        have HZ := Lib.hid hz
        clear hz hq
        go_wp2
        go_ret
        have hyes : holeL l = true := by
          obtain ⟨hk', hs⟩ := HS.out
          exact hole_at hk' (by rw [hs]; exact HZ.out)
        exact ⟨k, rfl, fun h => by (rw [hyes] at h; cases h), fun _ => by omega, rfl⟩
      · have hz' : s.toList.isEmpty = false := by rw [hq]; simp [hz]
        have HZ := Lib.hid hz
        clear hz hq
        go_wp2
        go_round
        case rel =>
          refine ⟨k + 1, by omega, by go_num, Lib.hid fun j hj hjk => ?_⟩
          by_cases e : j = k
          · subst e
            obtain ⟨_, hs⟩ := HS.out
            rw [hs]; exact HZ.out
          · exact H.out j hj (by omega)
        case measure => simp [intOf]; omega
    · go_wp2
      go_ret
      have hno : holeL l = false := fullTo_all (by
        obtain rfl : k = n := by omega
        rw [HN.out]; exact H.out)
      exact ⟨-1, rfl, fun _ => rfl, fun h => by (rw [hno] at h; cases h), rfl⟩
theorem contains_hole (l : List ByteArray) (v : Value) (w : World) (h : Txt w v l) (hm : l.length ≤ 100000) (b : Bool) (hb : holeL l = b) :
    Calls Tryz.prog 67 #[v, .string ⟨#[]⟩] w fun e w' => e = .returned (.bool b) ∧ w = w' := by
  have HI := Lib.hid (index_hole l v w h hm)
  have HB := Lib.hid hb
  clear h hm hb
  go_enter Tryz.func67, Tryz.ntmps67
  go_wp2_with fail
  refine HI.out.mono ?_
  rintro e w1 ⟨k, rfl, h1, h2, rfl⟩
  rw [HB.out] at h1 h2
  cases b with
  | false =>
    obtain rfl := h1 rfl
    go_wp2
    go_ret
    exact ⟨rfl, rfl⟩
  | true =>
    have hk := h2 rfl
    clear h1 h2
    go_wp2
    go_ret
    exact ⟨rfl, rfl⟩
theorem join_flat (l : List ByteArray) : Lib.join (l.map (·.data.toList)) (⟨#[]⟩ : ByteArray).data.toList = l.flatMap fun s => s.data.toList := by
  cases l with
  | nil => rfl
  | cons s r =>
    rw [List.map_cons, Lib.join_cons]
    simp [Lib.joinTail, List.flatMap_def]
    rfl
theorem join_any (l : List ByteArray) (v : Value) (w : World) (h : Txt w v l) (hm : l.length ≤ 100000) (hz : ∀ s ∈ l, s.size ≤ 100000) :
    Calls Tryz.prog 68 #[v, .string ⟨#[]⟩] w fun e w' => e = .returned (.string (joinB l)) ∧ Below w.heap.size w w' := by
  by_cases hl : 0 < l.length
  · obtain ⟨g, o, c, rfl, hcc, hg, hc⟩ := h.isSome hl
    have hlen : (Lib.join (l.map (·.data.toList)) (⟨#[]⟩ : ByteArray).data.toList).length ≤ 140737488355328 := by
      rw [join_flat]
      have : ∀ m : List ByteArray, (∀ s ∈ m, s.size ≤ 100000) → (m.flatMap fun s => s.data.toList).length ≤ m.length * 100000 := by
        intro m
        induction m with
        | nil => intro _; simp
        | cons s r ih =>
          intro hm
          have h1 := ih fun t ht => hm t (List.mem_cons_of_mem _ ht)
          have h2 := hm s List.mem_cons_self
          rw [sizeL] at h2
          rw [List.flatMap_cons, List.length_append, List.length_cons, Nat.add_mul]
          omega
      have := this l hz
      omega
    have := Tryz.strings_Join g o c l ⟨#[]⟩ w (fun j x hx => by
      obtain ⟨hj, rfl⟩ := List.getElem?_eq_some_iff.1 hx
      exact hc j hj) hg (by omega) hcc hlen
    rw [join_flat] at this
    exact this
  · obtain rfl : l = [] := List.eq_nil_of_length_eq_zero (by omega)
    obtain ⟨a, c, rfl⟩ := h.isNone
    exact (Tryz.strings_Join_none a c ⟨#[]⟩ w).mono fun e w' ⟨h1, h2⟩ => ⟨h1, by rw [h2]; exact Below.refl _ _⟩
/-- What joined answers. -/
theorem joined_any (l : List ByteArray) (v : Value) (w : World) (h : Txt w v l) (hm : l.length ≤ 100000) (hz : ∀ s ∈ l, s.size ≤ 100000) :
    Calls Tryz.prog 50 #[v] w fun e w' => e = .returned (.tuple #[.string (if holeL l then ⟨#[]⟩ else joinB l), .bool (!holeL l)]) ∧ Below w.heap.size w w' := by
  cases hb : holeL l with
  | true =>
    have HC := Lib.hid (contains_hole l v w h hm true hb)
    clear h hm hz hb
    go_enter Tryz.func50, Tryz.ntmps50
    go_wp2_with fail
    refine HC.out.mono ?_
    rintro e w1 ⟨rfl, rfl⟩
    go_wp2
    go_ret2
    exact ⟨rfl, Below.refl _ _⟩
  | false =>
    have HC := Lib.hid (contains_hole l v w h hm false hb)
    have HJ := Lib.hid (join_any l v w h hm hz)
    clear h hm hz hb
    go_enter Tryz.func50, Tryz.ntmps50
    go_wp2_with fail
    refine HC.out.mono ?_
    rintro e w1 ⟨rfl, rfl⟩
    go_wp2_with fail
    refine HJ.out.mono ?_
    rintro e w2 ⟨rfl, b2⟩
    go_wp2
    go_ret2
    exact ⟨rfl, b2⟩
end Go.Proofs.YtlhnmcopioeboaaGreat

/- An own slice of numbers. -/
namespace Go.Proofs.YtlhnmcopioeboaaGreat
set_option maxRecDepth 100000
open Go.RowKit

/-- The slice v is the call's own, from block B on, and it is the numbers zs. -/
def OwnI (B : Nat) (w : World) (v : Value) (zs : List Int) : Prop := w.ownsRow B 3 1 v zs.length (zs.map (Value.int .i64))
theorem OwnI.nil (B : Nat) (w : World) : OwnI B w (.slice none 0 0) [] := World.ownsRow_nil _ _ _ _
theorem OwnI.below {w w' : World} {B : Nat} {v : Value} {l : List Int} (h : OwnI B w v l) (hb : Below w.heap.size w w') : OwnI B w' v l := by
  refine ⟨h.1, ?_⟩
  rcases h.2 with hn | ⟨g, cap, cur, rfl, hB, hg, rest⟩
  · exact .inl hn
  · exact .inr ⟨g, cap, cur, rfl, hB, by rw [hb.block g (Array.getElem?_eq_some_iff.1 hg).1]; exact hg, rest⟩
theorem OwnI.lower {w : World} {B B' : Nat} {v : Value} {l : List Int} (h : OwnI B w v l) (hB : B' ≤ B) : OwnI B' w v l := by
  refine ⟨h.1, ?_⟩
  rcases h.2 with hn | ⟨g, cap, cur, rfl, hB', hg, rest⟩
  · exact .inl hn
  · exact .inr ⟨g, cap, cur, rfl, Nat.le_trans hB hB', hg, rest⟩
/-- The slice v is the numbers zs. -/
def IntsV (w : World) (v : Value) (zs : List Int) : Prop :=
  ∃ a n c, v = .slice a n c ∧ zs.length = n ∧ n ≤ c ∧ ∀ j (h : j < zs.length), ∃ g, a = some ⟨g, 0, none⟩ ∧ g < w.heap.size ∧ w.cell? ⟨g, j, none⟩ = some (.int .i64 zs[j])
theorem OwnI.v {w : World} {B : Nat} {v : Value} {zs : List Int} (h : OwnI B w v zs) : IntsV w v zs := by
  have hcells := fun g hg => World.ownsRow.cells (g := g) h hg
  rcases h.2 with ⟨rfl, h0⟩ | ⟨g, cap, cur, rfl, hB, hb, hnc, _⟩
  · exact ⟨none, 0, 0, rfl, h0, Nat.le_refl _, fun j hj => absurd hj (by omega)⟩
  · refine ⟨_, _, _, rfl, rfl, hnc, fun j hj => ⟨g, rfl, (Array.getElem?_eq_some_iff.1 hb).1, ?_⟩⟩
    have e := hcells g rfl j (.int .i64 zs[j]) (by rw [List.getElem?_map, List.getElem?_eq_getElem hj]; rfl)
    rwa [Go.WideShapes.add_plain, Nat.zero_add] at e
theorem IntsV.next {w w' : World} {v : Value} {zs : List Int} (h : IntsV w v zs) (k : Below w.heap.size w w') : IntsV w' v zs := by
  obtain ⟨a, n, c, rfl, hn, hc, hj⟩ := h
  refine ⟨a, n, c, rfl, hn, hc, fun j h => ?_⟩
  obtain ⟨g, ha, hg, hcell⟩ := hj j h
  exact ⟨g, ha, Nat.lt_of_lt_of_le hg k.size, by rw [k.cell (p := ⟨g, j, none⟩) hg]; exact hcell⟩
theorem infoI : ∃ i, Tryz.prog.info? 3 = some i ∧ i.zero = some (.int .i64 0) ∧ i.size = 1 ∧ i.bytes = 8 := info_parts (by kernel_rfl)
/-- append(v, y). -/
theorem wpList_append_int {ops : Array Oper} {rest : List Oper} {o : Oper} {a : Act} {Q : Exit → Act → World → Prop} (w : World) (hgd : o.guard = none) (s x : Operand)
    (ho : o.op = .call { callee := .builtin .append, args := #[s, x], argTypes := #[105, 105] }) (B : Nat) (v : Value) (l : List Int) (y : Int) (g c' : Nat) (hs : a.eval s = v) (hx : a.eval x = .slice (some ⟨g, 0, none⟩) 1 c')
    (hv : OwnI B w v l) (hc : w.cell? ⟨g, 0, none⟩ = some (.int .i64 y)) (hB : B ≤ w.heap.size) (hN : l.length ≤ 100000)
    (h : ∀ v' w', OwnI B w' v' (l ++ [y]) → Below B w w' → w.heap.size ≤ w'.heap.size → wpList Tryz.prog ops Q rest (a.put o.dst v') w') : wpList Tryz.prog ops Q (o :: rest) a w := by
  obtain ⟨i, hi, hz, hsz, hb⟩ := infoI
  refine wpList_append_own_at w hgd s x _ ho B 3 i _ 1 8 Tryz.underlying105 hi hz hsz hb rfl (by decide) v l.length (l.map (Value.int .i64)) hs hv ⟨g, 0, none⟩ 1 c' [.int .i64 y] hx rfl (fun j u hj => ?_) (fun u hu => ?_) (by unfold maxLen; omega) (by omega) hB fun v' w' h1 h2 _ _ => ?_
  · have hlt : j < 1 := (List.getElem?_eq_some_iff.1 hj).1
    obtain rfl : j = 0 := by omega
    rw [Go.WideShapes.add_plain, ← hj]
    exact hc
  · simp at hu; subst hu; rfl
  · refine h v' w' ?_ ((Below.refl B w).grown h2 hB fun k hk => (World.ownsRow.lt hv k hk).1) h2.size
    unfold OwnI
    rw [List.length_append, List.map_append]
    exact h1
end Go.Proofs.YtlhnmcopioeboaaGreat

/- Texts, and rows of texts, that are the call's own. -/
namespace Go.Proofs.YtlhnmcopioeboaaGreat
set_option maxRecDepth 100000
open Go.RowKit M

theorem Own.lower {w : World} {B B' : Nat} {v : Value} {l : List ByteArray} (h : Own w B v l) (hB : B' ≤ B) : Own w B' v l := by
  refine ⟨h.1, ?_⟩
  rcases h.2 with hn | ⟨g, cap, cur, rfl, hB', hg, rest⟩
  · exact .inl hn
  · exact .inr ⟨g, cap, cur, rfl, Nat.le_trans hB hB', hg, rest⟩
theorem Own.kept {w w' : World} {B : Nat} {row : Option Nat} {v : Value} {l : List ByteArray} (h : Own w B v l) (hg : w.grownBy w' row) (hne : ∀ b, v.ownBlock = some b → row ≠ some b) : Own w' B v l := by
  refine World.ownsRow.kept h hg ?_
  cases e : v.ownBlock with
  | none => exact .inl rfl
  | some b => exact .inr fun e' => hne b e e'.symm
/-- append(v, x): what is turned is the row's own block alone, and the answer lies there or is new. -/
theorem app_row (w : World) (B : Nat) (v : Value) (l : List ByteArray) (x : ByteArray) (g o c : Nat) (hv : Own w B v l) (hx : w.cell? ⟨g, o, none⟩ = some (.string x)) (hB : B ≤ w.heap.size) (hn : l.length + 1 ≤ 4294967296) (ty : TypeId) :
    ∃ v' w', (Builtin.append_ #[37, 37] ty #[v, .slice (some ⟨g, o, none⟩) 1 c]).run Tryz.prog w = .ok v' w' ∧ Own w' B v' (l ++ [x]) ∧ w.grownBy w' v.ownBlock ∧ ∃ b, v'.ownBlock = some b ∧ (v.ownBlock = some b ∨ w.heap.size ≤ b) := by
  obtain ⟨i, hi, hz, hs, hb⟩ := info_str
  have hnews : ∀ (j : Nat) (u : Value), ([Value.string x] : List Value)[j]? = some u → w.cell? ((⟨g, o, none⟩ : Addr).add j) = some u := fun j u hu => by
    obtain rfl : j = 0 := by
      have := (List.getElem?_eq_some_iff.1 hu).1
      simpa using this
    rw [Go.WideShapes.add_plain, Nat.add_zero, hx]
    simpa using hu
  have hone : ∀ u ∈ ([Value.string x] : List Value), u.oneCell' = true := fun u hu => by rw [List.mem_singleton.1 hu]; rfl
  have key : ∀ B', B' ≤ w.heap.size → Own w B' v l → ∃ v' w', (Builtin.append_ #[37, 37] ty #[v, .slice (some ⟨g, o, none⟩) 1 c]).run Tryz.prog w = .ok v' w' ∧ Own w' B' v' (l ++ [x]) ∧ w.grownBy w' v.ownBlock ∧ v' ≠ .slice none 0 0 := by
    intro B' hB' hv'
    obtain ⟨v', w', h1, h2, h3, h4⟩ := run_append_own (P := Tryz.prog) w B' 37 ty 9 i (.string ⟨#[]⟩) 1 16 Tryz.underlying37 hi hz hs hb rfl (by decide) v l.length (l.map Value.string) hv'
      ⟨g, o, none⟩ 1 c [.string x] rfl hnews hone (by unfold maxLen; omega) (by omega) hB'
    refine ⟨v', w', h1, ?_, h3, fun e => ?_⟩
    · rw [Own, List.length_append, List.map_append]; exact h2
    · have := (h4.1 e).2; omega
  rcases hv.2 with ⟨rfl, h0⟩ | ⟨gv, cap, cur, rfl, hBg, hg, hnc, hcm, hcs, ht⟩
  · have hl : l = [] := List.eq_nil_of_length_eq_zero h0
    subst hl
    obtain ⟨v', w', h1, h2, h3, h4⟩ := key w.heap.size (Nat.le_refl _) (World.ownsRow_nil _ _ _ _)
    refine ⟨v', w', h1, h2.lower hB, h3, ?_⟩
    rcases h2.2 with ⟨e, _⟩ | ⟨gb, _, _, e, hb', _⟩
    · exact absurd e h4
    · exact ⟨gb, by rw [e]; rfl, .inr hb'⟩
  · obtain ⟨v', w', h1, h2, h3, h4⟩ := key B hB hv
    refine ⟨v', w', h1, h2, h3, ?_⟩
    by_cases hroom : l.length + 1 ≤ cap
    · have hr := run_append_room (P := Tryz.prog) w 37 ty 9 i Tryz.underlying37 hi gv l.length cap cur hg ⟨g, o, none⟩ 1 c [.string x] (by simp [hs]) hnews hone hroom (by rw [hs, hcs]; simp; omega)
      rw [hr] at h1
      cases h1
      exact ⟨gv, rfl, .inl rfl⟩
    · have hr := run_append_grow (P := Tryz.prog) w 37 ty 9 i (.string ⟨#[]⟩) Tryz.underlying37 hi hz ⟨gv, 0, none⟩ l.length cap (l.map Value.string) (by rw [hs]; exact hv.1) (hv.cells (g := gv) rfl) ⟨g, o, none⟩ 1 c [.string x] (by simp [hs]) hnews (by omega) (by omega) (growslice_fits (by omega) (by rw [hb]; omega))
      rw [hr] at h1
      cases h1
      exact ⟨w.heap.size, rfl, .inr (Nat.le_refl _)⟩

/-- Texts X in block gt, and in block gr R rows: row r is the slice V r, the texts T r. -/
structure Enc (w : World) (B gt gr n R : Nat) (X : List ByteArray) (V : Nat → Value) (T : Nat → List ByteArray) : Prop where
  hB : B ≤ w.heap.size
  bt : B ≤ gt
  br : B ≤ gr
  tr : gt ≠ gr
  own : Own w B (.slice (some ⟨gt, 0, none⟩) n n) X
  lt : gr < w.heap.size
  tlt : gt < w.heap.size
  cell : ∀ r, r < R → w.cell? ⟨gr, r, none⟩ = some (V r)
  frz : ∀ r, r < R → w.frozen? ⟨gr, r, none⟩ = false
  rows : ∀ r, r < R → Own w B (V r) (T r)
  apart : ∀ r, r < R → ∀ b, (V r).ownBlock = some b → b ≠ gt ∧ b ≠ gr
  each : ∀ r r', r < R → r' < R → r ≠ r' → ∀ b, (V r).ownBlock = some b → (V r').ownBlock ≠ some b
theorem grown_below {w w' : World} (h : Below w.heap.size w w') : w.grownBy w' none := ⟨h.os, h.tape, h.output, h.size, fun k hk _ => h.block k hk⟩
theorem Enc.next {w w' : World} {B gt gr n R : Nat} {X : List ByteArray} {V : Nat → Value} {T : Nat → List ByteArray} (h : Enc w B gt gr n R X V T) (k : Below w.heap.size w w') : Enc w' B gt gr n R X V T :=
  ⟨Nat.le_trans h.hB k.size, h.bt, h.br, h.tr, h.own.below k, Nat.lt_of_lt_of_le h.lt k.size, Nat.lt_of_lt_of_le h.tlt k.size, fun r hr => by rw [k.cell (p := ⟨gr, r, none⟩) h.lt]; exact h.cell r hr,
    fun r hr => by rw [k.frozen (p := ⟨gr, r, none⟩) h.lt]; exact h.frz r hr, fun r hr => (h.rows r hr).below k, h.apart, h.each⟩
theorem grown_set (w : World) (p : Addr) (v : Value) : w.grownBy (w.setCell p v) (some p.block) :=
  ⟨rfl, rfl, rfl, by simp [World.setCell], fun k _ hk => Below.heap_setCell _ _ _ _ (fun e => hk (by rw [e]))⟩
/-- A text laid anew. -/
theorem Enc.text {w : World} {B gt gr n R : Nat} {X : List ByteArray} {V : Nat → Value} {T : Nat → List ByteArray} (h : Enc w B gt gr n R X V T) (k : Nat) (hk : k < n) (x : ByteArray) : Enc (w.setCell ⟨gt, k, none⟩ (.string x)) B gt gr n R (X.set k x) V T := by
  have hg := grown_set w ⟨gt, k, none⟩ (.string x)
  have hgr := hg.block gr h.lt (fun e => h.tr (Option.some.inj e).symm)
  exact ⟨Nat.le_trans h.hB hg.size, h.bt, h.br, h.tr, h.own.set k hk x, Nat.lt_of_lt_of_le h.lt hg.size, Nat.lt_of_lt_of_le h.tlt hg.size, fun r hr => by rw [World.cell?_of_block (w := w) (a := ⟨gr, r, none⟩) hgr]; exact h.cell r hr,
    fun r hr => by rw [World.frozen?_of_block (w := w) (a := ⟨gr, r, none⟩) hgr]; exact h.frz r hr, fun r hr => (h.rows r hr).kept hg fun b hb e => (h.apart r hr b hb).1 (Option.some.inj e).symm, h.apart, h.each⟩
/-- A row with a text more. -/
theorem Enc.push {w w' : World} {B gt gr n R : Nat} {X : List ByteArray} {V : Nat → Value} {T : Nat → List ByteArray} (h : Enc w B gt gr n R X V T) (r : Nat) (hr : r < R) (v' : Value) (T' : List ByteArray) (hg : w.grownBy w' (V r).ownBlock) (ho : Own w' B v' T')
    (hb : ∃ b, v'.ownBlock = some b ∧ ((V r).ownBlock = some b ∨ w.heap.size ≤ b)) :
    Enc (w'.setCell ⟨gr, r, none⟩ v') B gt gr n R X (fun i => if i = r then v' else V i) (fun i => if i = r then T' else T i) := by
  obtain ⟨b, hb1, hb2⟩ := hb
  have hs := grown_set w' ⟨gr, r, none⟩ v'
  have hbt : b ≠ gt ∧ b ≠ gr := by
    rcases hb2 with hb2 | hb2
    · exact h.apart r hr b hb2
    · have := h.lt; have := h.tlt; omega
  have hgr := hg.block gr h.lt (fun e => (h.apart r hr gr e.symm).2 rfl)
  have hltr : gr < w'.heap.size := Nat.lt_of_lt_of_le h.lt hg.size
  have hcell : ∀ i, i < R → w'.cell? ⟨gr, i, none⟩ = some (V i) := fun i hi => by rw [World.cell?_of_block (w := w) (a := ⟨gr, i, none⟩) hgr]; exact h.cell i hi
  have hothers : ∀ i, i < R → i ≠ r → ∀ c, (V i).ownBlock = some c → c ≠ b ∧ c ≠ gr ∧ (V r).ownBlock ≠ some c := fun i hi hir c hc => by
    have hVi := (World.ownsRow.lt (h.rows i hi) c hc).2
    refine ⟨fun e => ?_, (h.apart i hi c hc).2, h.each i r hi hr hir c hc⟩
    subst e
    rcases hb2 with hb2 | hb2
    · exact h.each i r hi hr hir c hc hb2
    · omega
  refine ⟨Nat.le_trans h.hB (Nat.le_trans hg.size hs.size), h.bt, h.br, h.tr, ?_, Nat.lt_of_lt_of_le hltr hs.size, Nat.lt_of_lt_of_le h.tlt (Nat.le_trans hg.size hs.size), fun i hi => ?_, fun i hi => ?_, fun i hi => ?_, fun i hi c hc => ?_, fun i j hi hj hij c hc => ?_⟩
  · exact (h.own.kept hg fun c hc e => by
      have hc' : gt = c := Option.some.inj hc
      subst hc'
      exact (h.apart r hr gt e).1 rfl).kept hs fun c hc e => by
        have hc' : gt = c := Option.some.inj hc
        have he' : gr = c := Option.some.inj e
        exact h.tr (by rw [hc', he'])
  · by_cases e : i = r
    · subst e
      rw [if_pos rfl, World.cell?_setCell_same _ _ _ (hcell i hi)]
    · rw [if_neg e, World.cell?_setCell_other _ _ _ _ (by intro h'; apply e; cases h'; rfl)]
      exact hcell i hi
  · rw [World.frozen?_setCell, World.frozen?_of_block (w := w) (a := ⟨gr, i, none⟩) hgr]; exact h.frz i hi
  · by_cases e : i = r
    · subst e
      rw [if_pos rfl, if_pos rfl]
      refine ho.kept hs fun c hc e => ?_
      rw [hb1] at hc
      have hc' : b = c := Option.some.inj hc
      have he' : gr = c := Option.some.inj e
      exact hbt.2 (by rw [hc', he'])
    · rw [if_neg e, if_neg e]
      refine ((h.rows i hi).kept hg fun c hc => (hothers i hi e c hc).2.2).kept hs fun c hc e' => ?_
      exact (hothers i hi e c hc).2.1 (Option.some.inj e').symm
  · by_cases e : i = r
    · subst e
      rw [if_pos rfl, hb1] at hc
      have hc' : b = c := Option.some.inj hc
      subst hc'
      exact hbt
    · rw [if_neg e] at hc
      exact h.apart i hi c hc
  · by_cases e : i = r
    · subst e
      rw [if_pos rfl, hb1] at hc
      have hc' : b = c := Option.some.inj hc
      subst hc'
      rw [if_neg (fun e => hij e.symm)]
      exact fun hV => (hothers j hj (fun e => hij e.symm) b hV).1 rfl
    · rw [if_neg e] at hc
      by_cases e' : j = r
      · subst e'
        rw [if_pos rfl, hb1]
        intro hcb
        exact (hothers i hi e c hc).1 (Option.some.inj hcb).symm
      · rw [if_neg e']
        exact h.each i j hi hj hij c hc
end Go.Proofs.YtlhnmcopioeboaaGreat

/- code.again, code.without: a column made again; a device's columns made again. -/
namespace Go.Proofs.YtlhnmcopioeboaaGreat
set_option maxRecDepth 100000
open Go.RowKit M

theorem rowG_mem {L : List C} {G : List ByteArray} {r : Int} {k N : Nat} (hG : ∀ s ∈ G, s.size ≤ N) : ∀ s ∈ rowG L G r k, s.size ≤ N := by
  intro s hs
  obtain ⟨j, _, rfl⟩ := List.mem_map.1 hs
  rw [List.getD_eq_getElem?_getD]
  cases h : G[j]? with
  | none => exact Nat.zero_le _
  | some t => exact hG t (List.mem_of_getElem? h)
theorem place_lt {L : List C} {G : List ByteArray} {a : Nat} (ha : a < L.length) : (rowG L G (rowAt L a) a).length < (rowG L G (rowAt L a) L.length).length := by
  obtain ⟨r, h, _⟩ := idx_split (q := fun j => rowAt L j == rowAt L a) (a := a) (by simp) L.length ha
  unfold rowG
  rw [h]
  simp

theorem txt_at (U : World) (y : ByteArray) (b : Nat) (hb : U.heap.size = b) : Txt (U.alloc (.cells #[.string y] 9)) (.slice (some ⟨b, 0, none⟩) 1 1) [y] := by subst hb; exact txt_one U y

set_option maxHeartbeats 2000000 in
theorem cagain_any (L : List C) (G : List ByteArray) (vL vG : Value) (w : World) (hV : ColsV w vL L) (hG : Txt w vG G) (hGl : G.length = L.length) (hl : L.length ≤ 100) (a : Nat) (ha : a < L.length) (h2 : 2 ≤ (rowG L G (rowAt L a) L.length).length) (hz : ∀ s ∈ G, s.size ≤ 100000) :
    Calls Tryz.prog 72 #[vL, vG, .int .i64 (a : Int)] w fun e w' => e = .returned (.string (agn L G a)) ∧ Below w.heap.size w w' := by
  obtain ⟨g, n, c, rfl, hn, hg, hC⟩ := hV.some (by omega)
  obtain ⟨gG, oG, cG, rfl, hcG, hgG, hCG⟩ := hG.isSome (by omega)
  have haL := ha
  rw [hGl, hn] at hcG
  rw [hn] at hl ha
  rw [hGl, hn]
  obtain ⟨r, hr⟩ : ∃ r, rowAt L a = r := ⟨_, rfl⟩
  have hCa := hC a haL
  have hra : (L[a]'haL).row = r := by rw [← rowAt_eq haL]; exact hr
  have ca := hCa.c3
  rw [hra] at ca
  have HPL : Hid ((rowG L G r a).length < (rowG L G r n).length) := Lib.hid (by rw [← hr, ← hn]; exact place_lt haL)
  have HAG : Hid (agn L G a = mkB ((rowG L G r n).eraseIdx (rowG L G r a).length)) := Lib.hid (by unfold agn; rw [hr, hn])
  rw [hr, hn] at h2
  have HC := Lib.hid hC
  have HCG := Lib.hid hCG
  have HN := Lib.hid hn
  have HGN : Hid (G.length = n) := Lib.hid (by rw [hGl, hn])
  have HR := Lib.hid hr
  have H2 := Lib.hid h2
  have HZ := Lib.hid hz
  clear hV hG hGl hn hC hCG hr hCa hra h2 hz haL
  go_enter Tryz.func72, Tryz.ntmps72
  go_wp2_with fail
  go_loopw [7, 8, 15] (fun t7 t8 i15 wr => ∃ (j m p : Nat) (b : Option Addr) (cc : Nat), j ≤ n ∧ m ≤ j ∧ p ≤ n ∧ i15 = .int .i64 (j : Int) ∧ t7 = .slice b m cc ∧ t8 = .int .i64 (p : Int) ∧ Hid (Own wr w.heap.size (.slice b m cc) (rowG L G r j)) ∧ Hid ((rowG L G r j).length = m) ∧ Hid (p = if a < j then (rowG L G r a).length else 0) ∧ Hid (Below w.heap.size w wr)) (fun _ _ i _ => n - (intOf i).toNat)
  case atStart => exact ⟨0, 0, 0, none, 0, Nat.zero_le _, Nat.le_refl _, Nat.zero_le _, rfl, rfl, rfl, Lib.hid (World.ownsRow_nil _ _ _ _), Lib.hid rfl, Lib.hid rfl, Lib.hid (Below.refl _ _)⟩
  case round =>
    obtain ⟨j, m, p, b, cc, hj, hmj, hpn, rfl, rfl, rfl, HO, HM, HP, HW⟩ := hrel
    have hsz := HW.out.size
    by_cases hjn : j < n
    · have hjL : j < L.length := by rw [HN.out]; exact hjn
      have hjG : j < G.length := by rw [HGN.out]; exact hjn
      obtain ⟨x, hx⟩ : ∃ x, L[j] = x := ⟨_, rfl⟩
      obtain ⟨y, hy⟩ : ∃ y, G[j] = y := ⟨_, rfl⟩
      have hCx := (HC.out j hjL).below hg HW.out
      rw [hx] at hCx
      obtain ⟨e0, e1, e2, e3⟩ := hCx
      have ca' := (HW.out.cell (p := ⟨g, a * 4 + 3, none⟩) hg).trans ca
      have hyc := (HW.out.cell (p := ⟨gG, oG + j, none⟩) hgG).trans (HCG.out j hjG)
      rw [hy] at hyc
      have HRX : Hid (rowAt L j = x.row) := Lib.hid (by rw [rowAt_eq hjL, hx])
      have HY : Hid (G.getD j ⟨#[]⟩ = y) := Lib.hid (by rw [List.getD_eq_getElem?_getD, List.getElem?_eq_getElem hjG, hy]; rfl)
      have HA : Hid ((if a < j then (rowG L G r a).length else 0) = p) := Lib.hid HP.out.symm
      have HOb := Lib.hid (HO.out.below (boxed wr (.cells #[.int .i64 x.dev, .int .i64 x.at_, .bool x.par, .int .i64 x.row] 44)))
      have hlw : g < wr.heap.size := Nat.lt_of_lt_of_le hg hsz
      have hlG : gG < wr.heap.size := Nat.lt_of_lt_of_le hgG hsz
      clear hx hy hjL hjG
      by_cases hrx : x.row = r
      · have hrb : (x.row == r) = true := by simp [hrx]
        have HNX : Hid (rowG L G r (j + 1) = rowG L G r j ++ [y]) := Lib.hid (by rw [rowG_yes (by rw [HRX.out]; exact hrx), HY.out])
        have HM1 : Hid ((rowG L G r j ++ [y]).length = m + 1) := Lib.hid (by rw [List.length_append, HM.out]; rfl)
        clear hrx
        by_cases hja : j = a
        · subst hja
          have HPN : Hid (m = if j < j + 1 then (rowG L G r j).length else 0) := Lib.hid (by rw [if_pos (by omega), HM.out])
          go_wp2_with fail
          go_quiet (fail)
          go_wp2_with (at_builtin; refine wpList_append_txt _ rfl _ _ rfl w.heap.size _ _ _ [y] _ (m + 1) rfl rfl rfl HM1.out ((HOb.out.below (below_drewN (Below.refl _ _) _)).alloc _) (txt_at _ y _ (by simp)) (by simp; omega) (by omega) ?_; intro b4 c4 w4 hO4 b04 s4)
          go_roundw
          case rel => exact ⟨j + 1, m + 1, m, b4, c4, by omega, by omega, by omega, by go_num, rfl, rfl, Lib.hid (by rw [HNX.out]; exact hO4), Lib.hid (by rw [HNX.out]; exact HM1.out), HPN, Lib.hid (((below_drewN (grows_alloc HW.out _) _).alloc (by simp; omega) _).trans b04)⟩
          case measure => simp [intOf]; omega
        · have hjb : ((j : Int) == (a : Int)) = false := by simp; omega
          have HPN : Hid (p = if a < j + 1 then (rowG L G r a).length else 0) := Lib.hid (by
            rw [← HA.out]
            by_cases h : a < j
            · rw [if_pos h, if_pos (by omega)]
            · rw [if_neg h, if_neg (by omega)])
          go_wp2_with fail
          go_quiet (fail)
          go_wp2_with (at_builtin; refine wpList_append_txt _ rfl _ _ rfl w.heap.size _ _ _ [y] _ (m + 1) rfl rfl rfl HM1.out ((HOb.out.below (below_drewN (Below.refl _ _) _)).alloc _) (txt_at _ y _ (by simp)) (by simp; omega) (by omega) ?_; intro b4 c4 w4 hO4 b04 s4)
          go_roundw
          case rel => exact ⟨j + 1, m + 1, p, b4, c4, by omega, by omega, by omega, by go_num, rfl, rfl, Lib.hid (by rw [HNX.out]; exact hO4), Lib.hid (by rw [HNX.out]; exact HM1.out), HPN, Lib.hid (((below_drewN (grows_alloc HW.out _) _).alloc (by simp; omega) _).trans b04)⟩
          case measure => simp [intOf]; omega
      · have hrb : (x.row == r) = false := by simp [hrx]
        have hja : ¬ j = a := fun e => hrx (by rw [← HRX.out, e]; exact HR.out)
        have HNX : Hid (rowG L G r (j + 1) = rowG L G r j) := Lib.hid (rowG_no (by rw [HRX.out]; exact hrx))
        have hjb : ((j : Int) == (a : Int)) = false := by simp; omega
        have HPN : Hid (p = if a < j + 1 then (rowG L G r a).length else 0) := Lib.hid (by
          rw [← HA.out]
          by_cases h : a < j
          · rw [if_pos h, if_pos (by omega)]
          · rw [if_neg h, if_neg (by omega)])
        clear hrx
        go_wp2_with fail
        go_quiet (fail)
        go_wp2
        go_roundw
        case rel => exact ⟨j + 1, m, p, b, cc, by omega, by omega, by omega, by go_num, rfl, rfl, Lib.hid (by rw [HNX.out]; exact HOb.out.below (below_drewN (Below.refl _ _) _)), Lib.hid (by rw [HNX.out]; exact HM.out), HPN, Lib.hid (below_drewN (grows_alloc HW.out _) _)⟩
        case measure => simp [intOf]; omega
    · obtain rfl : j = n := by omega
      have hp : p = (rowG L G r a).length := by rw [HP.out, if_pos (by omega)]
      have h2m : 2 ≤ m := by rw [← HM.out]; exact H2.out
      have hpm : p < m := by rw [hp, ← HM.out]; exact HPL.out
      have HPP := Lib.hid hp
      clear hp
      go_wp2_with fail
      refine (again_any (rowG L G r j) b m cc (p : Int) wr HO.out.txt (by omega) (fun s hs => Nat.le_trans (rowG_mem HZ.out s hs) (by decide)) p rfl hpm h2m).mono ?_
      rintro e w5 ⟨rfl, b5⟩
      go_wp2
      go_ret
      exact ⟨by rw [HAG.out, HPP.out]; rfl, next HW.out b5⟩
end Go.Proofs.YtlhnmcopioeboaaGreat

/- A region that draws its order, whose last operation may write what others read: an operation that yields its value wherever S holds may be taken first; S is to be shown behind each operation but that last one. -/
namespace Go.Proofs.YtlhnmcopioeboaaGreat
set_option maxRecDepth 100000

section
variable {P : Program} {ops : Array Oper} {Q : Exit → Act → World → Prop} {md : Region.Mode} {S : World → Prop} {s : Nat}

/-- Whatever order comes, S holds behind each operation but number s. -/
def wpAnyS (P : Program) (md : Region.Mode) (ops : Array Oper) (Q : Exit → Act → World → Prop) (S : World → Prop) (s : Nat) : Nat → Array Bool → Act → World → Prop
  | 0, listed, a, w => Region.ready md ops listed = [] ∧ Q .normal a w
  | fuel + 1, listed, a, w => (Region.ready md ops listed = [] → Q .normal a w) ∧
    ∀ i ∈ Region.ready md ops listed, wpOp P ops Q i (fun a' w' => (i ≠ s → S w') ∧ wpAnyS P md ops Q S s fuel (listed.setIfInBounds i true) a' w') a w

theorem wpAny_of_S : ∀ (fuel : Nat) (listed : Array Bool) (a : Act) (w : World), wpAnyS P md ops Q S s fuel listed a w → wpAny P md ops Q fuel listed a w
  | 0, _, _, _, h => h
  | fuel + 1, _, _, _, h => ⟨h.1, fun i hi => wpOp_mono (fun _ _ hk => wpAny_of_S fuel _ _ _ hk.2) (h.2 i hi)⟩

theorem wpAnyS_first {i : Nat} {oi : Oper} {v : Value} (hi : ops[i]? = some oi) (hsel : ∀ (j : Nat) (o : Oper) cs b, ops[j]? = some o → o.op ≠ .select cs b) (hQ : ∀ c a w, Q (.panic c) (a.put oi.dst v) w → Q (.panic c) a w)
    (hwait : ∃ os, ops[s]? = some os ∧ ∃ e ∈ os.after, Region.binds md e = true ∧ e.on = i) (fuel : Nat) :
    ∀ (listed : Array Bool) (a : Act) (w : World),
      (∀ j oj, ops[j]? = some oj → j ≠ i → listed.getD j true = false → (∀ e ∈ oj.after, Region.binds md e = true → e.on ≠ i) → oi.apart ops oj = true) →
      i ∈ Region.ready md ops listed → YieldsIf P ops S oi v a → S w → wpAnyS P md ops Q S s fuel (listed.setIfInBounds i true) (a.put oi.dst v) w → wpAnyS P md ops Q S s (fuel + 1) listed a w := by
  induction fuel with
  | zero =>
    intro listed a w _ hr hy hS H
    refine ⟨(fun e => by rw [e] at hr; cases hr), fun j hj => ?_⟩
    by_cases e : j = i
    · subst e
      exact hy.wpOp hi hS ⟨fun _ => hS, H⟩
    · have := ready_mono hj e
      rw [H.1] at this
      cases this
  | succ fuel ih =>
    intro listed a w hfree hr hy hS H
    refine ⟨(fun e => by rw [e] at hr; cases hr), fun j hj => ?_⟩
    by_cases e : j = i
    · subst e
      exact hy.wpOp hi hS ⟨fun _ => hS, H⟩
    · obtain ⟨hun, oj, hoj, hall⟩ := mem_ready.1 hj
      have hi0 := (mem_ready.1 hr).1
      have hnot : ∀ x ∈ oj.after, Region.binds md x = true → x.on ≠ i := fun x hx hb hon => by
        have h1 := hall x hx hb
        rw [hon] at h1
        rcases Nat.lt_or_ge i listed.size with hlt | hge
        · simp [hlt] at hi0 h1
          rw [hi0] at h1
          cases h1
        · simp [Array.getElem?_eq_none hge] at h1
      have hjs : j ≠ s := fun e' => by
        obtain ⟨os, hos, x, hx, hb, hon⟩ := hwait
        subst e'
        rw [hoj] at hos
        cases hos
        exact hnot x hx hb hon
      have h2 := wpOp_putIf hoj (hfree j oj hoj e hun hnot) (fun cs b => hsel i oi cs b hi) (fun cs b => hsel j oj cs b hoj) hQ hy (H.2 j (ready_mono hj e))
      refine wpOp_mono (fun a' w' hk => ⟨fun _ => hk.2.1 hjs, ih (listed.setIfInBounds j true) a' w' (fun k ok hk' hki hun' hno => hfree k ok hk' hki ?_ hno) (ready_mono hr (Ne.symm e)) hk.1 (hk.2.1 hjs) ?_⟩) h2
      · by_cases hjk : j = k
        · subst hjk; exact hun
        · rw [getD_set_ne true hjk] at hun'; exact hun'
      · rw [Array.setIfInBounds_comm _ _ e]
        exact hk.2.2

/-- Number i is taken first. -/
theorem wpAnyS_take {i : Nat} {oi : Oper} (v : Value) {fuel : Nat} {listed : Array Bool} {a : Act} {w : World} (hi : ops[i]? = some oi) (hs : Region.noSelect ops = true) (hf : Region.free md ops listed i = true)
    (hr : (Region.ready md ops listed).contains i = true) (hwait : ((ops[s]?).any fun o => o.after.any fun e => Region.binds md e && e.on == i) = true)
    (hQ : ∀ c a w, Q (.panic c) (a.put oi.dst v) w → Q (.panic c) a w) (hy : YieldsIf P ops S oi v a) (hS : S w)
    (h : wpAnyS P md ops Q S s fuel (listed.setIfInBounds i true) (a.put oi.dst v) w) : wpAnyS P md ops Q S s (fuel + 1) listed a w := by
  refine wpAnyS_first hi (Region.noSelect_spec hs) hQ ?_ fuel listed a w (Region.free_spec hi hf) (by simpa using hr) hy hS h
  obtain ⟨os, hos, h1⟩ := (Option.any_eq_true _ _).1 hwait
  obtain ⟨e, he, h2⟩ := Array.any_eq_true'.1 h1
  simp only [Bool.and_eq_true, beq_iff_eq] at h2
  exact ⟨os, hos, e, he, h2.1, h2.2⟩
/-- The one that may come up is carried out. -/
theorem wpAnyS_step {i : Nat} {o : Oper} {fuel : Nat} {listed : Array Bool} {a : Act} {w : World} (hr : Region.ready md ops listed = [i]) (ho : ops[i]? = some o) (hg : o.guard = none)
    (h : ∀ K : Act → World → Prop, (∀ a' w', (i ≠ s → S w') → wpAnyS P md ops Q S s fuel (listed.setIfInBounds i true) a' w' → K a' w') → o.wp P a w K Q) : wpAnyS P md ops Q S s (fuel + 1) listed a w := by
  refine ⟨(fun e => by rw [hr] at e; cases e), fun j hj => ?_⟩
  rw [hr] at hj
  obtain rfl := List.mem_singleton.1 hj
  unfold wpOp
  simp only [ho]
  rw [if_pos (by simp [Region.wanted, hg])]
  exact .inl (h _ fun a' w' hS hw => ⟨hS, hw⟩)
theorem wpAnyS_done {listed : Array Bool} {a : Act} {w : World} (hr : Region.ready md ops listed = []) (h : Q .normal a w) : ∀ fuel, wpAnyS P md ops Q S s fuel listed a w
  | 0 => ⟨hr, h⟩
  | _ + 1 => ⟨fun _ => h, by rw [hr]; simp⟩
theorem wp_region_S {id : Nat} {a : Act} {w : World} (s : Nat) (S : World → Prop) (hm : P.follows .mixedOrders = true) (h : wpAnyS P .any ops Q S s ops.size (Array.replicate ops.size false) a w.drew) : (Code.region id ops true).wp P Q a w :=
  wp_region_any hm (wpAny_of_S _ _ _ _ h)
end
end Go.Proofs.YtlhnmcopioeboaaGreat

/- code.Encode: a block's columns' texts. -/
namespace Go.Proofs.YtlhnmcopioeboaaGreat
set_option maxRecDepth 100000
open Go.RowKit M

theorem info_txts : ∃ i, Tryz.prog.info? 37 = some i ∧ i.zero = some (.slice none 0 0) ∧ i.size = 1 ∧ i.bytes = 24 := info_parts (by kernel_rfl)
theorem make_texts (w : World) (B n : Nat) (hB : B ≤ w.heap.size) (hn : n ≤ 100000) :
    ∃ w', (Instr.makeSlice 37 (.int .i64 (n : Int)) (.int .i64 (n : Int))).run Tryz.prog w = .ok (.slice (some ⟨w.heap.size, 0, none⟩) n n) w' ∧ Own w' B (.slice (some ⟨w.heap.size, 0, none⟩) n n) (List.replicate n ⟨#[]⟩) ∧ Below w.heap.size w w' ∧ w.heap.size < w'.heap.size := by
  obtain ⟨i, hi, hz, hs, hb⟩ := info_str
  obtain ⟨w', h1, h2, h3⟩ := run_make_full (P := Tryz.prog) w B 37 9 i (.string ⟨#[]⟩) 1 Tryz.underlying37 hi hz hs .i64 .i64 n (by rw [hb]; omega) (by unfold maxLen; omega) hB
  have h4 : (madeCells (Value.string ⟨#[]⟩).cells (n * 1)).toList = (List.replicate n (⟨#[]⟩ : ByteArray)).map Value.string := by
    rw [Nat.mul_one, List.map_replicate]; exact toList_madeCells_one _ _
  rw [h4] at h2
  refine ⟨w', h1, by rw [Own, List.length_replicate]; exact h2, ⟨h3.os, h3.tape, h3.output, h3.size, fun k hk => h3.block k hk (by simp)⟩, (World.ownsRow.lt h2 _ rfl).2⟩
theorem make_rows (w : World) (R : Nat) (hR : R ≤ 100000) :
    ∃ w', (Instr.makeSlice 63 (.int .i64 (R : Int)) (.int .i64 (R : Int))).run Tryz.prog w = .ok (.slice (some ⟨w.heap.size, 0, none⟩) R R) w' ∧ (∀ r, r < R → w'.cell? ⟨w.heap.size, r, none⟩ = some (.slice none 0 0)) ∧ (∀ r, r < R → w'.frozen? ⟨w.heap.size, r, none⟩ = false) ∧ Below w.heap.size w w' ∧ w.heap.size < w'.heap.size := by
  obtain ⟨i, hi, hz, hs, hb⟩ := info_txts
  obtain ⟨w', h1, h2, h3⟩ := run_make_full (P := Tryz.prog) w w.heap.size 63 37 i (.slice none 0 0) 1 Tryz.underlying63 hi hz hs .i64 .i64 R (by rw [hb]; omega) (by unfold maxLen; omega) (Nat.le_refl _)
  have h4 : (madeCells (Value.slice none 0 0).cells (R * 1)).toList = List.replicate R (.slice none 0 0) := by
    rw [Nat.mul_one]; exact toList_madeCells_one _ _
  rw [h4] at h2
  refine ⟨w', h1, fun r hr => ?_, fun r _ => h2.frozenAt r, ⟨h3.os, h3.tape, h3.output, h3.size, fun k hk => h3.block k hk (by simp)⟩, (World.ownsRow.lt h2 _ rfl).2⟩
  rw [h2.cellAt r (by omega), List.getElem?_replicate, if_pos hr]
theorem Enc.start {w w1 w2 w3 : World} {B n R : Nat} (hB : B ≤ w.heap.size) (ho : Own w1 B (.slice (some ⟨w.heap.size, 0, none⟩) n n) (List.replicate n ⟨#[]⟩)) (h1 : w.heap.size < w1.heap.size) (b2 : Below w1.heap.size w1 w2)
    (hc : ∀ r, r < R → w3.cell? ⟨w2.heap.size, r, none⟩ = some (.slice none 0 0)) (hf : ∀ r, r < R → w3.frozen? ⟨w2.heap.size, r, none⟩ = false) (b3 : Below w2.heap.size w2 w3) (h3 : w2.heap.size < w3.heap.size) :
    Enc w3 B w.heap.size w2.heap.size n R (List.replicate n ⟨#[]⟩) (fun _ => .slice none 0 0) (fun _ => []) := by
  have := b2.size
  have := b3.size
  exact ⟨by omega, hB, by omega, by omega, (ho.below b2).below b3, h3, by omega, hc, hf, fun r hr => World.ownsRow_nil _ _ _ _, fun r hr b hb => by simp [Value.ownBlock] at hb, fun r r' _ _ _ b hb => by simp [Value.ownBlock] at hb⟩

/-- Behind the first j columns: the data columns' texts are laid. -/
def Laid1 (L : List C) (f : Nat → ByteArray) (n j : Nat) (X : List ByteArray) : Prop := X.length = n ∧ ∀ i, i < n → X[i]? = some (if parAt L i = false ∧ i < j then f (dct L i) else ⟨#[]⟩)
theorem laid1_zero (L : List C) (f : Nat → ByteArray) (n : Nat) : Laid1 L f n 0 (List.replicate n ⟨#[]⟩) := ⟨by simp, fun i hi => by rw [List.getElem?_replicate, if_pos hi, if_neg (by omega)]⟩
theorem laid1_par {L : List C} {f : Nat → ByteArray} {n j : Nat} {X : List ByteArray} (h : Laid1 L f n j X) (hp : parAt L j = true) : Laid1 L f n (j + 1) X := by
  refine ⟨h.1, fun i hi => ?_⟩
  rw [h.2 i hi]
  congr 1
  by_cases hq : parAt L i = false
  · by_cases hij : i < j
    · rw [if_pos ⟨hq, hij⟩, if_pos ⟨hq, by omega⟩]
    · rw [if_neg (fun h => hij h.2), if_neg]
      rintro ⟨_, h'⟩
      obtain rfl : i = j := by omega
      rw [hp] at hq
      cases hq
  · rw [if_neg (fun h => hq h.1), if_neg (fun h => hq h.1)]
theorem laid1_data {L : List C} {f : Nat → ByteArray} {n j : Nat} {X : List ByteArray} (h : Laid1 L f n j X) (hp : parAt L j = false) (hj : j < n) : Laid1 L f n (j + 1) (X.set j (f (dct L j))) := by
  refine ⟨by simpa using h.1, fun i hi => ?_⟩
  by_cases e : j = i
  · subst e
    rw [List.getElem?_set_self (by rw [h.1]; exact hj), if_pos ⟨hp, by omega⟩]
  · rw [List.getElem?_set_ne e, h.2 i hi]
    congr 1
    by_cases hq : parAt L i = false ∧ i < j
    · rw [if_pos hq, if_pos ⟨hq.1, by omega⟩]
    · rw [if_neg hq, if_neg (fun h => hq ⟨h.1, by omega⟩)]
/-- And of the first j columns the parities. -/
def Laid2 (L : List C) (f : Nat → ByteArray) (n j : Nat) (X : List ByteArray) : Prop := X.length = n ∧ ∀ i, i < n → X[i]? = some (if parAt L i = false ∨ i < j then encAt L f i else ⟨#[]⟩)
theorem laid2_zero {L : List C} {f : Nat → ByteArray} {n : Nat} {X : List ByteArray} (h : Laid1 L f n n X) : Laid2 L f n 0 X := by
  refine ⟨h.1, fun i hi => ?_⟩
  rw [h.2 i hi]
  congr 1
  cases hp : parAt L i with
  | false => rw [if_pos ⟨rfl, hi⟩, if_pos (.inl rfl), encAt, hp]; rfl
  | true => rw [if_neg (by simp), if_neg (by simp)]
theorem laid2_data {L : List C} {f : Nat → ByteArray} {n j : Nat} {X : List ByteArray} (h : Laid2 L f n j X) (hp : parAt L j = false) : Laid2 L f n (j + 1) X := by
  refine ⟨h.1, fun i hi => ?_⟩
  rw [h.2 i hi]
  congr 1
  by_cases hq : parAt L i = false ∨ i < j
  · rw [if_pos hq, if_pos (hq.imp id fun h => by omega)]
  · rw [if_neg hq, if_neg]
    rintro (h' | h')
    · exact hq (.inl h')
    · by_cases e : i = j
      · subst e; exact hq (.inl hp)
      · exact hq (.inr (by omega))
theorem laid2_par {L : List C} {f : Nat → ByteArray} {n j : Nat} {X : List ByteArray} (h : Laid2 L f n j X) (hj : j < n) : Laid2 L f n (j + 1) (X.set j (encAt L f j)) := by
  refine ⟨by simpa using h.1, fun i hi => ?_⟩
  by_cases e : j = i
  · subst e
    rw [List.getElem?_set_self (by rw [h.1]; exact hj), if_pos (.inr (by omega))]
  · rw [List.getElem?_set_ne e, h.2 i hi]
    congr 1
    by_cases hq : parAt L i = false ∨ i < j
    · rw [if_pos hq, if_pos (hq.imp id fun h => by omega)]
    · rw [if_neg hq, if_neg (fun h => hq (h.imp id fun h => by omega))]
theorem laid2_all {L : List C} {f : Nat → ByteArray} {n : Nat} {X : List ByteArray} (h : Laid2 L f n n X) (hn : L.length = n) : X = encL L f := by
  apply List.ext_getElem?
  intro i
  by_cases hi : i < n
  · rw [h.2 i hi, if_pos (.inr hi), List.getElem?_eq_getElem (by rw [encL_len, hn]; exact hi), encL_get]
  · rw [List.getElem?_eq_none (by rw [h.1]; omega), List.getElem?_eq_none (by rw [encL_len, hn]; omega)]
theorem rowD_push (L : List C) (f : Nat → ByteArray) (j rn : Nat) (hp : parAt L j = false) (hr : rowAt L j = (rn : Int)) :
    (fun i : Nat => if i = rn then rowD L f (rn : Int) j ++ [f (dct L j)] else rowD L f (i : Int) j) = fun i : Nat => rowD L f (i : Int) (j + 1) := by
  funext i
  by_cases e : i = rn
  · subst e; rw [if_pos rfl, rowD_yes hp hr]
  · rw [if_neg e, rowD_no (.inr (by rw [hr]; omega))]
theorem rowD_skip (L : List C) (f : Nat → ByteArray) (j : Nat) (hp : parAt L j = true) : (fun i : Nat => rowD L f (i : Int) j) = fun i : Nat => rowD L f (i : Int) (j + 1) := by
  funext i
  rw [rowD_no (.inl hp)]
end Go.Proofs.YtlhnmcopioeboaaGreat

/- code.Encode, walked. -/
namespace Go.Proofs.YtlhnmcopioeboaaGreat
set_option maxRecDepth 100000
open Go.RowKit M

theorem rowD_small {L : List C} {f : Nat → ByteArray} {r : Int} {k N : Nat} (hf : ∀ n, (f n).size ≤ N) : ∀ s ∈ rowD L f r k, s.size ≤ N := by
  intro s hs
  obtain ⟨j, _, rfl⟩ := List.mem_map.1 hs
  exact hf _

set_option maxHeartbeats 4000000 in
theorem encode_core (l : List (Int × Int)) (sc : Int) (a : Option Addr) (n0 c0 : Nat) (w : World) (h : Meas w (.agg #[.slice a n0 c0, .int .i64 sc]) l sc) (k t z : Nat) (L : List C) (R : Nat) (hz1 : 1 ≤ z) (hz4 : z ≤ 4) (hL0 : 0 < L.length) (hL : L.length ≤ 32) (hR4 : R ≤ 4)
    (hrow : ∀ j (h : j < L.length), 0 ≤ L[j].row ∧ L[j].row < R) (hlast : ∃ j, ∃ h : j < L.length, L[j].row = (R : Int) - 1) (s : ByteArray) (N : Nat) (hN : s.size = N) (hs : N = z * 64)
    (HO : ∀ w1, Below w.heap.size w w1 → Meas w1 (.agg #[.slice a n0 c0, .int .i64 sc]) l sc → Calls Tryz.prog 16 #[.agg #[.slice a n0 c0, .int .i64 sc], .agg #[.int .i64 (k : Int), .int .i64 (t : Int)], .int .i64 (z : Int)] w1 fun e w' => ∃ v', e = .returned (.tuple #[v', .int .i64 0]) ∧ OwnC w1.heap.size w' v' L ∧ Below w1.heap.size w1 w') :
    Calls Tryz.prog 7 #[.agg #[.slice a n0 c0, .int .i64 sc], .agg #[.int .i64 (k : Int), .int .i64 (t : Int)], .string s] w fun e w' => ∃ v', e = .returned (.tuple #[v', .int .i64 0]) ∧ Own w' w.heap.size v' (encL L fun i => sect s (i % z)) ∧ Below w.heap.size w w' := by
  obtain ⟨f, hf⟩ : ∃ f : Nat → ByteArray, f = fun i => sect s (i % z) := ⟨_, rfl⟩
  rw [← hf]
  have K1 := Lib.hid (HeldP.start k t h)
  have HC := Lib.hid (HO _ K1.out.h.below K1.out.h.m)
  have HS : Hid (s.size = z * 64) := Lib.hid (by rw [hN, hs])
  have hN4 : N ≤ 256 := by omega
  have q1 : (N : Int) % 64 = 0 := by omega
  have q2 : (N : Int) / 64 = (z : Int) := by omega
  have q3 : Int.tmod (N : Int) 64 = 0 := by rw [Int.tmod_eq_emod_of_nonneg (by omega)]; exact q1
  have q4 : Int.tdiv (N : Int) 64 = (z : Int) := by rw [Int.tdiv_eq_ediv_of_nonneg (by omega)]; exact q2
  have HF := Lib.hid hf
  have HROW := Lib.hid hrow
  have HLAST := Lib.hid hlast
  have HFS : Hid (∀ i, (f i).size ≤ 64) := Lib.hid fun i => by
    rw [hf]
    show (sect s (i % z)).size ≤ 64
    rw [sect_size (z := z) (by rw [hN, hs]) (Nat.mod_lt _ hz1)]
    exact Nat.le_refl _
  clear h HO hs hf hrow hlast
  go_enter Tryz.func7, Tryz.ntmps7
  go_wp2_with fail
  refine HC.out.mono ?_
  rintro e w1 ⟨v1, rfl, ho1, b1⟩
  have HB1 : Hid (Below w.heap.size w w1) := Lib.hid (next K1.out.h.below b1)
  have HV := Lib.hid ho1.v
  clear ho1 b1 HC K1
  obtain ⟨g, n, c, rfl, hn, hg, hC⟩ := HV.out.some hL0
  have HCC := Lib.hid hC
  have HN := Lib.hid hn
  rw [hn] at hL0 hL
  clear hC hn
  obtain ⟨w2, hm1, hO2, b2, s2⟩ := make_texts w1 w1.heap.size n (Nat.le_refl _) (by omega)
  have HO2 := Lib.hid hO2
  have HB2 := Lib.hid b2
  clear hO2 b2
  go_wp2_with fail
  refine (rows_any w2 L g n c (Nat.lt_of_lt_of_le hg HB2.out.size) HN.out (by omega) (fun j hj => (HCC.out j hj).below hg HB2.out) R (by omega) HROW.out HLAST.out).mono ?_
  rintro e w3 ⟨rfl, b3⟩
  obtain ⟨w4, hm2, hc4, hf4, b4, s4⟩ := make_rows w3 R (by omega)
  have HE := Lib.hid (Enc.start (Nat.le_refl _) HO2.out s2 b3 hc4 hf4 b4 s4)
  have HBB : Hid (Below w1.heap.size w1 w4) := Lib.hid (HB2.out.trans ((b3.trans (b4.mono b3.size)).mono HB2.out.size))
  have HBR : Hid (w1.heap.size ≤ w3.heap.size) := Lib.hid (Nat.le_trans (Nat.le_of_lt s2) b3.size)
  clear HO2 HB2 b3 hc4 hf4 b4 s4 s2
  go_wp2_with fail
  clear hm1 hm2
  generalize hgt : w1.heap.size = gt at *
  generalize hgr : w3.heap.size = gr at *
  have HGT := Lib.hid hgt
  have HGR := Lib.hid hgr
  clear hgt hgr
  go_loopw [13, 43] (fun t13 i43 wr => ∃ (j d : Nat), j ≤ n ∧ d ≤ j ∧ i43 = .int .i64 (j : Int) ∧ t13 = .int .i64 (d : Int) ∧ Hid (dct L j = d) ∧ Hid (∃ X V, Enc wr gt gt gr n R X V (fun r : Nat => rowD L f (r : Int) j) ∧ Laid1 L f n j X) ∧ Hid (Below gt w1 wr)) (fun _ i _ => n - (intOf i).toNat)
  case atStart => exact ⟨0, 0, Nat.zero_le _, Nat.le_refl _, rfl, rfl, Lib.hid rfl, Lib.hid ⟨_, _, HE.out, laid1_zero L f n⟩, HBB⟩
  case round =>
    obtain ⟨j, d, hj, hdj, rfl, rfl, HD, HX, HW⟩ := hrel
    have hsz := HW.out.size
    rw [HGT.out] at hsz
    by_cases hjn : j < n
    · have hjL : j < L.length := by rw [HN.out]; exact hjn
      obtain ⟨x, hx⟩ : ∃ x, L[j] = x := ⟨_, rfl⟩
      have hCx := (HCC.out j hjL).below hg HW.out
      have hrw := HROW.out j hjL
      have hct := dct_succ hjL
      rw [hx] at hCx hrw hct
      obtain ⟨e0, e1, e2, e3⟩ := hCx
      have HPX : Hid (parAt L j = x.par) := Lib.hid (by rw [parAt_eq hjL, hx])
      have HRX : Hid (rowAt L j = x.row) := Lib.hid (by rw [rowAt_eq hjL, hx])
      obtain ⟨X, V, hE, hX⟩ := HX.out
      have HEr := Lib.hid hE
      have HXr := Lib.hid hX
      clear hx hjL hE hX HX
      obtain ⟨rn, hrn⟩ := Int.eq_ofNat_of_zero_le hrw.1
      rw [hrn] at e3 hrw HRX
      have hrR : rn < R := by omega
      clear hrw
      cases hp : x.par with
      | true =>
        rw [hp] at e2 hct
        have HNX := Lib.hid (rowD_skip L f j (by rw [HPX.out]; exact hp))
        have HPT : Hid (parAt L j = true) := Lib.hid (by rw [HPX.out]; exact hp)
        have HCT : Hid (dct L (j + 1) = d) := Lib.hid (by rw [hct, HD.out]; rfl)
        clear hp hct HPX
        go_wp2
        go_roundw
        case rel => exact ⟨j + 1, d, by omega, by omega, by go_num, rfl, HCT, Lib.hid ⟨X, V, by rw [← HNX.out]; exact HEr.out.next (boxed _ _), laid1_par HXr.out HPT.out⟩, Lib.hid (HW.out.alloc hsz _)⟩
        case measure => simp [intOf]; omega
      | false =>
        rw [hp] at e2 hct
        have HPF : Hid (parAt L j = false) := Lib.hid (by rw [HPX.out]; exact hp)
        have HCT : Hid (dct L (j + 1) = d + 1) := Lib.hid (by rw [hct, HD.out]; rfl)
        obtain ⟨q, hq⟩ : ∃ q : Nat, (d : Int) % (z : Int) = (q : Int) := ⟨d % z, by simp⟩
        have HQ : Hid (d % z = q) := Lib.hid (by have : ((d % z : Nat) : Int) = (q : Int) := by rw [← hq]; simp
                                                 omega)
        have hq8 : (q : Int) < z := by rw [← hq]; exact Int.emod_lt_of_pos _ (by omega)
        have hz0 : ((z : Int) == 0) = false := by simp; omega
        obtain ⟨y, hy⟩ : ∃ y, f (dct L j) = y := ⟨_, rfl⟩
        have HY : Hid (sect s q = y) := Lib.hid (by rw [← hy, HD.out, HF.out, ← HQ.out])
        have HYF := Lib.hid hy
        have bx := boxed wr (.cells #[.int .i64 x.dev, .int .i64 x.at_, .bool false, .int .i64 (rn : Int)] 44)
        have hE1 := HEr.out.next bx
        have hcb : (wr.alloc (.cells #[.int .i64 x.dev, .int .i64 x.at_, .bool false, .int .i64 (rn : Int)] 44)).cell? ⟨wr.heap.size, 3, none⟩ = some (.int .i64 (rn : Int)) := by simp
        have HE1 := Lib.hid hE1
        have HCB := Lib.hid hcb
        clear hp hct HPX hy hE1 hcb
        go_wp2_with fail
        refine (sector_any s q z _ HS.out (by omega) (by omega)).mono ?_
        rintro e w5 ⟨rfl, b5⟩
        rw [HY.out]
        have hE5 := HE1.out.next b5
        have hs5 := b5.size
        rw [World.size_alloc] at hs5
        have hcb := (b5.cell (p := ⟨wr.heap.size, 3, none⟩) (by simp)).trans HCB.out
        obtain ⟨_, ex, _, _, hXl, _, hfz, hcl⟩ := hE5.own.at_ hL0
        cases ex
        have hcj := hcl j (by rw [hXl]; exact hjn)
        generalize X[j]'(by rw [hXl]; exact hjn) = yold at hcj
        have htl := HEr.out.tlt
        have hfj := hfz j hjn
        have hE6 := hE5.text j hjn y
        have hcb6 : (w5.setCell ⟨gt, j, none⟩ (.string y)).cell? ⟨wr.heap.size, 3, none⟩ = some (.int .i64 (rn : Int)) := by
          rw [World.cell?_setCell_other _ _ _ _ (by intro h'; have := congrArg Addr.block h'; dsimp only at this; omega)]; exact hcb
        have hcj6 : (w5.setCell ⟨gt, j, none⟩ (.string y)).cell? ⟨gt, j, none⟩ = some (.string y) := World.cell?_setCell_same _ _ _ hcj
        have HX6 : Hid (Laid1 L f n (j + 1) (X.set j y)) := Lib.hid (by rw [← HYF.out]; exact laid1_data HXr.out HPF.out hjn)
        have HE6 := Lib.hid hE6
        have HW6 : Hid (Below gt w1 (w5.setCell ⟨gt, j, none⟩ (.string y))) := Lib.hid (((HW.out.alloc hsz _).trans (b5.mono (by simp; omega))).setCell (p := ⟨gt, j, none⟩) (Nat.le_refl _) _)
        have HCB6 := Lib.hid hcb6
        have HCJ6 := Lib.hid hcj6
        have hlt6 : wr.heap.size < (w5.setCell ⟨gt, j, none⟩ (.string y)).heap.size := by simp [World.setCell]; omega
        have HVB : Hid (∀ b, (V rn).ownBlock = some b → b < wr.heap.size) := Lib.hid fun b hb => (World.ownsRow.lt (HEr.out.rows rn hrR) b hb).2
        clear hE5 hE6 hcl hfz hXl hcb6 hcj6 hcb b5 hs5 bx
        go_wp2_with fail
        generalize w5.setCell ⟨gt, j, none⟩ (.string y) = w6 at *
        clear hcj hfj
        obtain ⟨va, vn, vc, hVs⟩ : ∃ va vn vc, V rn = .slice va vn vc := by
          rcases (HE6.out.rows rn hrR).2 with ⟨e, _⟩ | ⟨_, _, _, e, _⟩
          · exact ⟨_, _, _, e⟩
          · exact ⟨_, _, _, e⟩
        have S2 := HE6.out.cell rn hrR
        rw [hVs] at S2
        have S1 := HCB6.out
        have S3 := HCJ6.out
        have HVS := Lib.hid hVs
        have hj1 : ((j : Int)).toNat = j := by omega
        have hr1 : ((rn : Int)).toNat = rn := by omega
        clear hVs e0 e1 e2 e3
        refine wp_region_S 15 (fun w' => w'.cell? ⟨wr.heap.size, 3, none⟩ = some (.int .i64 (rn : Int)) ∧ w'.cell? ⟨gr, rn, none⟩ = some (.slice va vn vc) ∧ w'.cell? ⟨gt, j, none⟩ = some (.string y)) (by kernel_rfl) ?_
        have hS : w6.drew.cell? ⟨wr.heap.size, 3, none⟩ = some (.int .i64 (rn : Int)) ∧ w6.drew.cell? ⟨gr, rn, none⟩ = some (.slice va vn vc) ∧ w6.drew.cell? ⟨gt, j, none⟩ = some (.string y) := ⟨S1, S2, S3⟩
        clear S1 S2 S3
        refine wpAnyS_take (i := 0) (.slice (some ⟨gr, 0, none⟩) R R) rfl (by kernel_rfl) (by kernel_rfl) (by kernel_rfl) (by kernel_rfl) (fun _ _ _ h => h) (Or.inl ⟨by rfl, fun w' hw' => ?_⟩) hS ?_
        · (obtain ⟨h1, h2, h3⟩ := hw'; go_simp)
        (try go_frame)
        refine wpAnyS_take (i := 1) (.pointer (some ⟨wr.heap.size, 3, none⟩)) rfl (by kernel_rfl) (by kernel_rfl) (by kernel_rfl) (by kernel_rfl) (fun _ _ _ h => h) (Or.inl ⟨by rfl, fun w' hw' => ?_⟩) hS ?_
        · (obtain ⟨h1, h2, h3⟩ := hw'; go_simp)
        (try go_frame)
        refine wpAnyS_take (i := 2) (.int .i64 (rn : Int)) rfl (by kernel_rfl) (by kernel_rfl) (by kernel_rfl) (by kernel_rfl) (fun _ _ _ h => h) (Or.inl ⟨by rfl, fun w' hw' => ?_⟩) hS ?_
        · (obtain ⟨h1, h2, h3⟩ := hw'; go_simp)
        (try go_frame)
        refine wpAnyS_take (i := 3) (.slice (some ⟨gr, 0, none⟩) R R) rfl (by kernel_rfl) (by kernel_rfl) (by kernel_rfl) (by kernel_rfl) (fun _ _ _ h => h) (Or.inl ⟨by rfl, fun w' hw' => ?_⟩) hS ?_
        · (obtain ⟨h1, h2, h3⟩ := hw'; go_simp)
        (try go_frame)
        refine wpAnyS_take (i := 4) (.pointer (some ⟨wr.heap.size, 3, none⟩)) rfl (by kernel_rfl) (by kernel_rfl) (by kernel_rfl) (by kernel_rfl) (fun _ _ _ h => h) (Or.inl ⟨by rfl, fun w' hw' => ?_⟩) hS ?_
        · (obtain ⟨h1, h2, h3⟩ := hw'; go_simp)
        (try go_frame)
        refine wpAnyS_take (i := 5) (.int .i64 (rn : Int)) rfl (by kernel_rfl) (by kernel_rfl) (by kernel_rfl) (by kernel_rfl) (fun _ _ _ h => h) (Or.inl ⟨by rfl, fun w' hw' => ?_⟩) hS ?_
        · (obtain ⟨h1, h2, h3⟩ := hw'; go_simp)
        (try go_frame)
        refine wpAnyS_take (i := 6) (.pointer (some ⟨gr, rn, none⟩)) rfl (by kernel_rfl) (by kernel_rfl) (by kernel_rfl) (by kernel_rfl) (fun _ _ _ h => h) (Or.inl ⟨by rfl, fun w' hw' => ?_⟩) hS ?_
        · (obtain ⟨h1, h2, h3⟩ := hw'; go_simp)
        (try go_frame)
        refine wpAnyS_take (i := 7) (.slice va vn vc) rfl (by kernel_rfl) (by kernel_rfl) (by kernel_rfl) (by kernel_rfl) (fun _ _ _ h => h) (Or.inl ⟨by rfl, fun w' hw' => ?_⟩) hS ?_
        · (obtain ⟨h1, h2, h3⟩ := hw'; go_simp)
        (try go_frame)
        refine wpAnyS_take (i := 8) (.slice (some ⟨gt, 0, none⟩) n n) rfl (by kernel_rfl) (by kernel_rfl) (by kernel_rfl) (by kernel_rfl) (fun _ _ _ h => h) (Or.inl ⟨by rfl, fun w' hw' => ?_⟩) hS ?_
        · (obtain ⟨h1, h2, h3⟩ := hw'; go_simp)
        (try go_frame)
        refine wpAnyS_take (i := 9) (.int .i64 (j : Int)) rfl (by kernel_rfl) (by kernel_rfl) (by kernel_rfl) (by kernel_rfl) (fun _ _ _ h => h) (Or.inl ⟨by rfl, fun w' hw' => ?_⟩) hS ?_
        · (obtain ⟨h1, h2, h3⟩ := hw'; go_simp)
        (try go_frame)
        refine wpAnyS_take (i := 10) (.pointer (some ⟨gt, j, none⟩)) rfl (by kernel_rfl) (by kernel_rfl) (by kernel_rfl) (by kernel_rfl) (fun _ _ _ h => h) (Or.inl ⟨by rfl, fun w' hw' => ?_⟩) hS ?_
        · (obtain ⟨h1, h2, h3⟩ := hw'; go_simp)
        (try go_frame)
        refine wpAnyS_take (i := 11) (.string y) rfl (by kernel_rfl) (by kernel_rfl) (by kernel_rfl) (by kernel_rfl) (fun _ _ _ h => h) (Or.inl ⟨by rfl, fun w' hw' => ?_⟩) hS ?_
        · (obtain ⟨h1, h2, h3⟩ := hw'; go_simp)
        (try go_frame)
        refine wpAnyS_step (i := 12) (by kernel_rfl) rfl rfl fun K hK => ?_
        go_simp
        have b7 : Below w6.heap.size w6 (w6.alloc (.cells #[.string y] 9)).drew := ((Below.refl _ w6).alloc (Nat.le_refl _) _).drew
        have hE7 := HE6.out.next b7
        have hS7 : (w6.alloc (.cells #[.string y] 9)).drew.cell? ⟨wr.heap.size, 3, none⟩ = some (.int .i64 (rn : Int)) ∧ (w6.alloc (.cells #[.string y] 9)).drew.cell? ⟨gr, rn, none⟩ = some (.slice va vn vc) ∧ (w6.alloc (.cells #[.string y] 9)).drew.cell? ⟨gt, j, none⟩ = some (.string y) :=
          ⟨(b7.cell (p := ⟨wr.heap.size, 3, none⟩) hlt6).trans hS.1, (b7.cell (p := ⟨gr, rn, none⟩) HE6.out.lt).trans hS.2.1, (b7.cell (p := ⟨gt, j, none⟩) HE6.out.tlt).trans hS.2.2⟩
        have HB7 : Hid (Below gt w1 (w6.alloc (.cells #[.string y] 9)).drew) := Lib.hid (HW6.out.trans (b7.mono HE6.out.hB))
        have hnew : (w6.alloc (.cells #[.string y] 9)).drew.cell? ⟨w6.heap.size, 0, none⟩ = some (.string y) := by
          show (w6.alloc (.cells #[.string y] 9)).cell? ⟨w6.heap.size, 0, none⟩ = _
          simp
        refine hK _ _ (fun _ => hS7) ?_
        clear hK hS b7
        (try go_frame)
        generalize hw7 : (w6.alloc (.cells #[.string y] 9)).drew = w7 at *
        have hlt7 : wr.heap.size < w7.heap.size := by rw [← hw7]; show wr.heap.size < (w6.alloc (.cells #[.string y] 9)).heap.size; simp; omega
        clear hw7
        have hrows := hE7.rows rn hrR
        rw [HVS.out] at hrows
        obtain ⟨v8, w8, e8, hO8, hg8, hb8⟩ := app_row w7 gt (.slice va vn vc) _ y w6.heap.size 0 1 hrows hnew hE7.hB (Nat.le_trans (Nat.add_le_add_right (rowD_len L f (rn : Int) j) 1) (by omega)) 37
        have hS8 : w8.cell? ⟨wr.heap.size, 3, none⟩ = some (.int .i64 (rn : Int)) ∧ w8.cell? ⟨gr, rn, none⟩ = some (.slice va vn vc) ∧ w8.cell? ⟨gt, j, none⟩ = some (.string y) := by
          have hne : ∀ b, b = wr.heap.size ∨ b = gr ∨ b = gt → some b ≠ (Value.slice va vn vc).ownBlock := fun b hb e => by
            rw [← HVS.out] at e
            have h1 := HVB.out b e.symm
            have h2 := HE6.out.apart rn hrR b e.symm
            omega
          exact ⟨hg8.cell (a := ⟨wr.heap.size, 3, none⟩) hS7.1 (hne _ (.inl rfl)), hg8.cell (a := ⟨gr, rn, none⟩) hS7.2.1 (hne _ (.inr (.inl rfl))), hg8.cell (a := ⟨gt, j, none⟩) hS7.2.2 (hne _ (.inr (.inr rfl)))⟩
        have hB8 : Below gt w1 w8 := HB7.out.trans ((Below.refl _ w7).grown hg8 hE7.hB fun b hb => (World.ownsRow.lt hrows b hb).1)
        have hfr8 : w8.frozen? ⟨gr, rn, none⟩ = false := by
          rw [World.frozen?_of_block (w := w7) (a := ⟨gr, rn, none⟩) (hg8.block gr hE7.lt fun e => by rw [← HVS.out] at e; exact (hE7.apart rn hrR gr e.symm).2 rfl)]
          exact hE7.frz rn hrR
        have hE9 := hE7.push rn hrR v8 _ (by rw [HVS.out]; exact hg8) hO8 (by rw [HVS.out]; exact hb8)
        have HR9 : Hid ((fun i : Nat => if i = rn then rowD L f (rn : Int) j ++ [y] else rowD L f (i : Int) j) = fun i : Nat => rowD L f (i : Int) (j + 1)) := Lib.hid (by rw [← HYF.out]; exact rowD_push L f j rn HPF.out HRX.out)
        rw [HR9.out] at hE9
        have HE9 := Lib.hid hE9
        obtain ⟨ua, un, uc, hu⟩ : ∃ ua un uc, v8 = .slice ua un uc := by
          rcases hO8.2 with ⟨e, _⟩ | ⟨_, _, _, e, _⟩
          · exact ⟨_, _, _, e⟩
          · exact ⟨_, _, _, e⟩
        subst hu
        clear hE9 hO8 hg8 hb8 hrows hnew hE7 hS7
        refine wpAnyS_step (i := 13) (by kernel_rfl) rfl rfl fun K hK => Lib.wp_append_run _ _ _ _ _ rfl _ _ rfl rfl _ _ e8 ?_
        refine hK _ _ (fun _ => hS8) ?_
        clear hK
        have hS := hS8
        (try go_frame)
        refine wpAnyS_take (i := 14) (.pointer (some ⟨gr, rn, none⟩)) rfl (by kernel_rfl) (by kernel_rfl) (by kernel_rfl) (by kernel_rfl) (fun _ _ _ h => h) (Or.inl ⟨by rfl, fun w' hw' => ?_⟩) hS ?_
        · (obtain ⟨h1, h2, h3⟩ := hw'; go_simp)
        (try go_frame)
        refine wpAnyS_step (i := 15) (by kernel_rfl) rfl rfl fun K hK => ?_
        have hcr := hS8.2.1
        go_simp
        refine hK _ _ (fun h => absurd rfl h) ?_
        clear hK hS hS8 e8 hcr
        have HB9 : Hid (Below gt w1 (w8.setCell ⟨gr, rn, none⟩ (.slice ua un uc))) := Lib.hid (hB8.setCell (p := ⟨gr, rn, none⟩) HBR.out _)
        generalize w8.setCell ⟨gr, rn, none⟩ (.slice ua un uc) = w9 at *
        refine wpAnyS_done (by kernel_rfl) ?_ _
        clear hB8 hfr8
        go_wp2
        go_roundw
        case rel => exact ⟨j + 1, d + 1, by omega, by omega, by go_num, by go_num, HCT, Lib.hid ⟨_, _, HE9.out, HX6.out⟩, HB9⟩
        case measure => simp [intOf]; omega
    · obtain rfl : j = n := by omega
      have HX2 : Hid (∃ X V, Enc wr gt gt gr j R X V (fun r : Nat => rowD L f (r : Int) j) ∧ Laid2 L f j 0 X) := Lib.hid (by
        obtain ⟨X, V, hE, hX⟩ := HX.out
        exact ⟨X, V, hE, laid2_zero hX⟩)
      have HW0 := Lib.hid HW.out
      clear HX HW HE HBB
      go_wp2_with fail
      rename World => w7
      go_loopw [78] (fun i78 wr => ∃ i : Nat, i ≤ j ∧ i78 = .int .i64 (i : Int) ∧ Hid (∃ X V, Enc wr gt gt gr j R X V (fun r : Nat => rowD L f (r : Int) j) ∧ Laid2 L f j i X) ∧ Hid (Below gt w1 wr)) (fun i _ => j - (intOf i).toNat)
      case atStart => exact ⟨0, Nat.zero_le _, rfl, HX2, HW0⟩
      case round =>
        obtain ⟨i, hi, rfl, HX, HW⟩ := hrel
        clear HX2 HW0
        have hsz := HW.out.size
        rw [HGT.out] at hsz
        by_cases hin : i < j
        · have hiL : i < L.length := by rw [HN.out]; exact hin
          obtain ⟨x, hx⟩ : ∃ x, L[i] = x := ⟨_, rfl⟩
          have hCx := (HCC.out i hiL).below hg HW.out
          have hrw := HROW.out i hiL
          rw [hx] at hCx hrw
          obtain ⟨e0, e1, e2, e3⟩ := hCx
          have HPX : Hid (parAt L i = x.par) := Lib.hid (by rw [parAt_eq hiL, hx])
          have HRX : Hid (rowAt L i = x.row) := Lib.hid (by rw [rowAt_eq hiL, hx])
          obtain ⟨X, V, hE, hX⟩ := HX.out
          have HEr := Lib.hid hE
          have HXr := Lib.hid hX
          clear hx hiL hE hX HX
          obtain ⟨rn, hrn⟩ := Int.eq_ofNat_of_zero_le hrw.1
          rw [hrn] at e3 hrw HRX
          have hrR : rn < R := by omega
          clear hrw
          cases hp : x.par with
          | false =>
            rw [hp] at e2
            have HPF : Hid (parAt L i = false) := Lib.hid (by rw [HPX.out]; exact hp)
            clear hp HPX
            go_wp2
            go_roundw
            case rel => exact ⟨i + 1, by omega, by go_num, Lib.hid ⟨X, V, HEr.out.next (boxed _ _), laid2_data HXr.out HPF.out⟩, Lib.hid (HW.out.alloc hsz _)⟩
            case measure => simp [intOf]; omega
          | true =>
            rw [hp] at e2
            obtain ⟨y, hy⟩ : ∃ y, mkB (rowD L f (rn : Int) j) = y := ⟨_, rfl⟩
            have HY : Hid (encAt L f i = y) := Lib.hid (by rw [← hy, encAt, HPX.out, hp, HRX.out, HN.out]; rfl)
            have HYY := Lib.hid hy
            have bx := boxed wr (.cells #[.int .i64 x.dev, .int .i64 x.at_, .bool true, .int .i64 (rn : Int)] 44)
            have hE1 := HEr.out.next bx
            have hrc := hE1.cell rn hrR
            obtain ⟨va, vn, vc, hVs⟩ : ∃ va vn vc, V rn = .slice va vn vc := by
              rcases (HEr.out.rows rn hrR).2 with ⟨e, _⟩ | ⟨_, _, _, e, _⟩
              · exact ⟨_, _, _, e⟩
              · exact ⟨_, _, _, e⟩
            have hrt := (hE1.rows rn hrR).txt
            rw [hVs] at hrc hrt
            have HRT := Lib.hid hrt
            have HE1 := Lib.hid hE1
            clear hp HPX hy hE1 hrt hVs
            go_wp2_with fail
            refine (make_any _ _ _ HRT.out (Nat.le_trans (rowD_len L f (rn : Int) j) (by unfold maxLen; omega)) (fun s' hs' => Nat.le_trans (rowD_small HFS.out s' hs') (by decide))).mono ?_
            rintro e w5 ⟨rfl, b5⟩
            rw [HYY.out]
            have hE5 := HE1.out.next b5
            obtain ⟨_, ex, _, _, hXl, _, hfz, hcl⟩ := hE5.own.at_ (by omega)
            cases ex
            have hcj := hcl i (by rw [hXl]; exact hin)
            generalize X[i]'(by rw [hXl]; exact hin) = yold at hcj
            have hfj := hfz i hin
            have HE6 := Lib.hid (hE5.text i hin y)
            have HX6 : Hid (Laid2 L f j (i + 1) (X.set i y)) := Lib.hid (by rw [← HY.out]; exact laid2_par HXr.out hin)
            have HW6 : Hid (Below gt w1 (w5.setCell ⟨gt, i, none⟩ (.string y))) := Lib.hid (((HW.out.alloc hsz _).trans (b5.mono (by simp; omega))).setCell (p := ⟨gt, i, none⟩) (Nat.le_refl _) _)
            clear hE5 hcl hfz hXl b5 bx hrc
            go_wp2
            go_roundw
            case rel => exact ⟨i + 1, by omega, by go_num, Lib.hid ⟨_, V, HE6.out, HX6.out⟩, HW6⟩
            case measure => simp [intOf]; omega
        · obtain rfl : i = j := by omega
          obtain ⟨X, V, hE, hX⟩ := HX.out
          have HO9 : Hid (Own wr gt (.slice (some ⟨gt, 0, none⟩) i i) (encL L f)) := Lib.hid (by rw [← laid2_all hX HN.out]; exact hE.own)
          clear hE hX HX
          go_wp2
          go_ret2
          have hgw : w.heap.size ≤ gt := by rw [← HGT.out]; exact HB1.out.size
          exact ⟨_, rfl, HO9.out.lower hgw, HB1.out.trans (HW.out.mono hgw)⟩
end Go.Proofs.YtlhnmcopioeboaaGreat

/- code.Encode of any block. -/
namespace Go.Proofs.YtlhnmcopioeboaaGreat
set_option maxRecDepth 100000
open Go.RowKit M

/-- May a text of N bytes be a block there? -/
def mayT (l : List (Int × Int)) (sc k t : Int) (N : Nat) : Bool := decide (N % 64 = 0) && mayL l sc k t ((N / 64 : Nat) : Int)

set_option maxHeartbeats 1000000 in
theorem encode_bad (l : List (Int × Int)) (sc : Int) (v : Value) (w : World) (h : Meas w v l sc) (k t : Int) (hk : I64 k) (ht : I64 t) (s : ByteArray) (hs : s.size ≤ 1000) (hno : mayT l sc k t s.size = false) :
    Calls Tryz.prog 7 #[v, .agg #[.int .i64 k, .int .i64 t], .string s] w fun e w' => e = .returned (.tuple #[.slice none 0 0, .int .i64 1]) ∧ Below w.heap.size w w' := by
  have K1 := h
  obtain ⟨a, n, c, rfl, hg⟩ := id h
  replace K1 := Lib.hid (HeldP.start k t K1)
  obtain ⟨N, hN⟩ : ∃ N, s.size = N := ⟨_, rfl⟩
  rw [hN] at hs hno
  by_cases hm : N % 64 = 0
  · have hno' : mayL l sc k t ((N / 64 : Nat) : Int) = false := by simpa [mayT, hm] using hno
    obtain ⟨z, hz⟩ : ∃ z, N / 64 = z := ⟨_, rfl⟩
    rw [hz] at hno'
    have q3 : Int.tmod (N : Int) 64 = 0 := by rw [Int.tmod_eq_emod_of_nonneg (by omega)]; omega
    have q4 : Int.tdiv (N : Int) 64 = (z : Int) := by rw [Int.tdiv_eq_ediv_of_nonneg (by omega)]; omega
    have hz2 : z ≤ 1000 := by omega
    have HC := Lib.hid (of_bad l sc _ _ K1.out.h.m k t (z : Int) hk ht ⟨by omega, by omega⟩ hno')
    clear h hg hno hno' hm hk ht hz
    go_enter Tryz.func7, Tryz.ntmps7
    go_wp2_with fail
    refine HC.out.mono ?_
    rintro e w1 ⟨rfl, b1⟩
    go_wp2
    go_ret2
    exact ⟨rfl, next K1.out.h.below b1⟩
  · have q3 : (Int.tmod (N : Int) 64 == 0) = false := by rw [Int.tmod_eq_emod_of_nonneg (by omega)]; simp; omega
    have q4 : ((N : Int) % 64 != 0) = true := by simp; omega
    clear h hg hno hm hk ht
    go_enter Tryz.func7, Tryz.ntmps7
    go_wp2
    go_ret2
    exact ⟨rfl, K1.out.h.below⟩

/-- The columns' texts of a block. -/
def encOf (l : List (Int × Int)) (k t z : Nat) (s : ByteArray) : List ByteArray := encL (colsOf l k t z) fun i => sect s (i % z)
theorem encOf_len (l : List (Int × Int)) (k t z : Nat) (s : ByteArray) : (encOf l k t z s).length = (colsOf l k t z).length := encL_len _ _

theorem encode_ok (l : List (Int × Int)) (sc : Int) (v : Value) (w : World) (h : Meas w v l sc) (k t z : Nat) (hB : Blk l sc k t z) (s : ByteArray) (hs : s.size = z * 64) :
    Calls Tryz.prog 7 #[v, .agg #[.int .i64 (k : Int), .int .i64 (t : Int)], .string s] w fun e w' => ∃ v', e = .returned (.tuple #[v', .int .i64 0]) ∧ Own w' w.heap.size v' (encOf l k t z s) ∧ Below w.heap.size w w' := by
  obtain ⟨a, n, c, rfl, hg⟩ := id h
  have hk := hB.hk
  obtain ⟨kk, u, hlk, hok⟩ : ∃ kk u, l[k] = (kk, u) ∧ okG (kk, u) = true := ⟨l[k].1, l[k].2, rfl, hB.right.all k hk⟩
  obtain ⟨u0, rfl⟩ := Int.eq_ofNat_of_zero_le (show 0 ≤ u by have := okG_wide hok; omega)
  obtain ⟨R, hR⟩ := hB.rowed hlk
  exact encode_core l sc a n c w h k t z (colsOf l k t z) R hB.z1 hB.z4 hB.laid.pos hB.laid.few hR.few hR.in_ hR.last s s.size rfl hs
    (fun w1 _ hM => of_ok l sc _ w1 hM k t z hB)

/-- What Encode answers of any block. -/
def EncB (l : List (Int × Int)) (sc k t : Int) (s : ByteArray) (B : Nat) (w : World) (v : Value) (er : Int) : Prop :=
  (mayT l sc k t s.size = false ∧ v = .slice none 0 0 ∧ er = 1) ∨ ∃ k' t' z' : Nat, k = k' ∧ t = t' ∧ s.size = z' * 64 ∧ Blk l sc k' t' z' ∧ er = 0 ∧ Own w B v (encOf l k' t' z' s)
theorem mayT_iff {l : List (Int × Int)} {sc k t : Int} {N : Nat} : mayT l sc k t N = true ↔ ∃ k' t' z' : Nat, k = k' ∧ t = t' ∧ N = z' * 64 ∧ Blk l sc k' t' z' := by
  unfold mayT
  rw [Bool.and_eq_true, decide_eq_true_iff, mayL_iff]
  constructor
  · rintro ⟨h, k', t', z', h1, h2, h3, hB⟩
    exact ⟨k', t', z', h1, h2, by omega, hB⟩
  · rintro ⟨k', t', z', h1, h2, h3, hB⟩
    refine ⟨by omega, k', t', z', h1, h2, ?_, hB⟩
    rw [h3, Nat.mul_div_cancel _ (by omega)]
theorem encode_any (l : List (Int × Int)) (sc : Int) (v : Value) (w : World) (h : Meas w v l sc) (k t : Int) (hk : I64 k) (ht : I64 t) (s : ByteArray) (hs : s.size ≤ 1000) :
    Calls Tryz.prog 7 #[v, .agg #[.int .i64 k, .int .i64 t], .string s] w fun e w' => ∃ v' er, e = .returned (.tuple #[v', .int .i64 er]) ∧ EncB l sc k t s w.heap.size w' v' er ∧ Below w.heap.size w w' := by
  cases hm : mayT l sc k t s.size with
  | false => exact (encode_bad l sc v w h k t hk ht s hs hm).mono fun e w' ⟨h1, h2⟩ => ⟨_, _, h1, .inl ⟨hm, rfl, rfl⟩, h2⟩
  | true =>
    obtain ⟨k', t', z', rfl, rfl, h3, hB⟩ := mayT_iff.1 hm
    exact (encode_ok l sc v w h k' t' z' hB s h3).mono fun e w' ⟨v', h1, h2, h4⟩ => ⟨_, _, h1, .inr ⟨k', t', z', rfl, rfl, h3, hB, rfl, h2⟩, h4⟩
end Go.Proofs.YtlhnmcopioeboaaGreat

/- vdev.encoded, spared. -/
namespace Go.Proofs.YtlhnmcopioeboaaGreat
set_option maxRecDepth 100000
open Go.RowKit Go.Maps M

/-- A box that holds a place. -/
structure BoxP (k t : Int) (b : Nat) (w : World) : Prop where
  c0 : w.cell? ⟨b, 0, none⟩ = some (.int .i64 k)
  c1 : w.cell? ⟨b, 1, none⟩ = some (.int .i64 t)
theorem BoxP.new (w : World) (k t : Int) (B : Nat) (hB : B ≤ w.heap.size) (ty : TypeId) : New B (w.alloc (.cells #[.int .i64 k, .int .i64 t] ty)) (BoxP k t w.heap.size) :=
  (New.block w _ B hB).mono fun w' e => ⟨by simp [World.cell?, e], by simp [World.cell?, e]⟩

/-- What encoded answers. -/
def EncV (l : List (Int × Int)) (sc k t : Int) (s : ByteArray) (B : Nat) (w : World) (v1 v2 : Value) (er : Int) : Prop :=
  (mayT l sc k t s.size = false ∧ v1 = .slice none 0 0 ∧ v2 = .slice none 0 0 ∧ er = 1) ∨
  ∃ k' t' z' : Nat, k = k' ∧ t = t' ∧ s.size = z' * 64 ∧ Blk l sc k' t' z' ∧ er = 0 ∧ New B w (fun w => OwnC B w v1 (colsOf l k' t' z') ∧ Own w B v2 (encOf l k' t' z' s))


/-- Boxes for a pool's devices and a place, made one behind the other. -/
theorem boxes8 {X : Nat → Prop} {B : Nat} {w : World} {x : Px} {l : List (Int × Int)} {ds : Nat → Dv} {aw : Nat → Bool} {K : Nat} {P : World → Prop} (h : StX X B w x l ds aw K P) (k t : Int) (t1 t2 : TypeId) :
    ∃ w1 w2, w.alloc (.cells #[.slice x.ga x.gn x.gc, .int .i64 x.sc, .slice (some ⟨x.lb, 0, none⟩) x.n x.n, .slice (some ⟨x.ab, 0, none⟩) x.n x.n] t1) = w1 ∧ w1.alloc (.cells #[.int .i64 k, .int .i64 t] t2) = w2 ∧
      w2.heap.size = w.heap.size + 2 ∧ StX X B w2 x l ds aw K (fun w' => P w' ∧ BoxX x w.heap.size w' ∧ BoxP k t (w.heap.size + 1) w') ∧ Below w.heap.size w w2 := by
  have b1 := boxed w (.cells #[.slice x.ga x.gn x.gc, .int .i64 x.sc, .slice (some ⟨x.lb, 0, none⟩) x.n x.n, .slice (some ⟨x.ab, 0, none⟩) x.n x.n] t1)
  have H1 := h.add b1 (BoxX.new w x _ (Nat.le_refl _) _)
  have hz1 : (w.alloc (.cells #[.slice x.ga x.gn x.gc, .int .i64 x.sc, .slice (some ⟨x.lb, 0, none⟩) x.n x.n, .slice (some ⟨x.ab, 0, none⟩) x.n x.n] t1)).heap.size = w.heap.size + 1 := by simp
  refine ⟨_, _, rfl, rfl, by simp, ?_, ?_⟩
  · have b2 := boxed (w.alloc (.cells #[.slice x.ga x.gn x.gc, .int .i64 x.sc, .slice (some ⟨x.lb, 0, none⟩) x.n x.n, .slice (some ⟨x.ab, 0, none⟩) x.n x.n] t1)) (.cells #[.int .i64 k, .int .i64 t] t2)
    have H2 := H1.add b2 (BoxP.new _ k t _ (Nat.le_refl _) _)
    rw [hz1] at H2
    exact H2.mono fun w h => ⟨h.1.1, h.1.2, h.2⟩
  · exact next b1 (boxed _ _)

section
variable {X : Nat → Prop} {B : Nat} {w : World} {x : Px} {l : List (Int × Int)} {ds : Nat → Dv} {aw : Nat → Bool} {K : Nat} {P : World → Prop}
set_option maxHeartbeats 2000000 in
theorem encoded_any (h : StX X B w x l ds aw K P) (k t : Int) (hk : I64 k) (ht : I64 t) (s : ByteArray) (hs : s.size ≤ 1000) :
    Calls Tryz.prog 13 #[x.val, .agg #[.int .i64 k, .int .i64 t], .string s] w fun e w' => ∃ v1 v2 er, e = .returned (.tuple #[v1, v2, .int .i64 er]) ∧ EncV l x.sc k t s w.heap.size w' v1 v2 er ∧ Below w.heap.size w w' := by
  obtain ⟨wa, w2, ea, e2, z2, H2, b2⟩ := boxes8 h k t 31 26
  have HA := Lib.hid ea
  have HE2 := Lib.hid e2
  have HB2 := Lib.hid b2
  have HR := Lib.hid (right8_any H2)
  have HST := Lib.hid H2
  have HK := Lib.hid hk
  have HT := Lib.hid ht
  obtain ⟨_, ⟨x0, x1, x2, x3⟩, y0, y1⟩ := H2.out
  clear h H2 ea e2 b2 hk ht
  unfold Px.val at HR ⊢
  go_enter Tryz.func13, Tryz.ntmps13
  go_wp2_with (first | (rw [HA.out, HE2.out]; fail))
  rw [HA.out, HE2.out]
  go_wp2_with fail
  refine HR.out.mono ?_
  rintro e w3 ⟨rfl, b3⟩
  have HST3 := Lib.hid (HST.out.below b3)
  have HB3 := Lib.hid (next HB2.out b3)
  clear x0 x1 x2 x3 y0 y1 b3 HST HB2
  obtain ⟨_, ⟨x0, x1, x2, x3⟩, y0, y1⟩ := HST3.out.out
  have HE := Lib.hid (encode_any l x.sc x.g w3 HST3.out.meas k t HK.out HT.out s hs)
  unfold Px.g at HE
  go_wp2_with fail
  refine HE.out.mono ?_
  rintro e w4 ⟨v4, er, rfl, he, b4⟩
  have HST4 := Lib.hid (HST3.out.below b4)
  have HB4 := Lib.hid (next HB3.out b4)
  clear x0 x1 x2 x3 y0 y1 HE
  obtain ⟨_, ⟨x0, x1, x2, x3⟩, y0, y1⟩ := HST4.out.out
  rcases he with ⟨hno, rfl, rfl⟩ | ⟨k', t', z', rfl, rfl, hsz, hBl, rfl, hO⟩
  · go_wp2
    go_ret3
    exact ⟨_, _, _, rfl, .inl ⟨hno, rfl, rfl, rfl⟩, HB4.out⟩
  · have q4 : Int.tdiv (s.size : Int) 64 = (z' : Int) := by rw [Int.tdiv_eq_ediv_of_nonneg (by omega)]; omega
    have hz4 := hBl.z4
    have HO := Lib.hid hO
    have HBL := Lib.hid hBl
    have HSZ := Lib.hid hsz
    have HC := Lib.hid (of_ok l x.sc x.g w4 HST4.out.meas k' t' z' hBl)
    have HSS := Lib.hid HB3.out.size
    unfold Px.g at HC
    clear hO hBl hsz
    go_wp2_with fail
    refine HC.out.mono ?_
    rintro e w5 ⟨v5, rfl, hO5, b5⟩
    go_wp2
    go_ret3
    refine ⟨_, _, _, rfl, .inr ⟨k', t', z', rfl, rfl, HSZ.out, HBL.out, rfl, ?_⟩, next HB4.out b5⟩
    exact (New.cols (hO5.lower HB4.out.size)).and (New.txt ((HO.out.lower HSS.out).below b5))
end
theorem spared_any (kk u : Int) (w : World) (hok : okG (kk, u) = true) :
    Calls Tryz.prog 15 #[.agg #[.int .i64 kk, .int .i64 u]] w fun e w' => e = .returned (.int .i64 (if kk = 0 then u - 1 else 1)) ∧ Below w.heap.size w w' := by
  have hb := Lib.hid (boxed w (.cells #[.int .i64 kk, .int .i64 u] 52))
  rcases okG_cases hok with ⟨rfl, h1, h8⟩ | ⟨rfl, h1, h8⟩
  · clear hok
    go_enter Tryz.func15, Tryz.ntmps15
    go_wp2
    go_ret
    exact ⟨by simp, hb.out⟩
  · clear hok
    go_enter Tryz.func15, Tryz.ntmps15
    go_wp2
    go_ret
    exact ⟨by simp, hb.out⟩
end Go.Proofs.YtlhnmcopioeboaaGreat

/- vdev.Write: what becomes of the devices; the walk. -/
namespace Go.Proofs.YtlhnmcopioeboaaGreat
set_option maxRecDepth 100000
open Go.RowKit Go.Maps M

def devN (L : List C) (j : Nat) : Nat := (L.getD j ⟨0, 0, false, 0⟩).dev.toNat
def atN (L : List C) (j : Nat) : Nat := (L.getD j ⟨0, 0, false, 0⟩).at_.toNat
/-- The devices behind j columns' writing. -/
def wrTo (ds : Nat → Dv) (aw : Nat → Bool) (L : List C) (E : List ByteArray) : Nat → Nat → Dv
  | 0 => ds
  | j + 1 => putD (wrTo ds aw L E j) aw (devN L j) (atN L j) (E.getD j ⟨#[]⟩)
/-- The devices that didn't take one of j columns. -/
def faTo (hr : Nat → Bool) (L : List C) : Nat → List Nat
  | 0 => []
  | j + 1 => if hr (devN L j) then faTo hr L j else putN (faTo hr L j) (devN L j)
theorem wrTo_here (ds : Nat → Dv) (aw : Nat → Bool) (L : List C) (E : List ByteArray) (j : Nat) : hereB (wrTo ds aw L E j) aw = hereB ds aw := by
  induction j with
  | zero => rfl
  | succ j ih => rw [wrTo, hereB_put, ih]
/-- Columns and their texts, as they can be written. -/
structure Puts (n : Nat) (sc : Int) (L : List C) (E : List ByteArray) : Prop where
  len : E.length = L.length
  pos : 0 < L.length
  few : L.length ≤ 32
  dev : ∀ j (h : j < L.length), L[j].dev = (devN L j : Int) ∧ devN L j < n
  at_ : ∀ j (h : j < L.length), L[j].at_ = (atN L j : Int) ∧ (atN L j : Int) < sc
  size : ∀ j, j < E.length → (E.getD j ⟨#[]⟩).size = 64
def failN (ds : Nat → Dv) (aw : Nat → Bool) (L : List C) : Nat := (faTo (hereB ds aw) L L.length).length
def spareN (x : Int × Int) : Int := if x.1 = 0 then x.2 - 1 else 1
def errN (x : Int × Int) (n : Nat) : Int := if spareN x < (n : Int) then 6 else 0
theorem ownC_in {w : World} {B g n c : Nat} {L : List C} (h : OwnC B w (.slice (some ⟨g, 0, none⟩) n c) L) (j : Nat) (hj : j < L.length) : IsC w g (j * 4) L[j] := by
  obtain ⟨g', c', e, _, _, hc⟩ := h.some (by omega)
  simp only [Value.slice.injEq, Option.some.injEq, Addr.mk.injEq, and_true] at e
  obtain ⟨rfl, _⟩ := e
  exact hc.at_ j hj
theorem own_ex {w : World} {B : Nat} {v : Value} {E : List ByteArray} (h : Own w B v E) (hl : 0 < E.length) : ∃ g c, v = .slice (some ⟨g, 0, none⟩) E.length c ∧ E.length ≤ c ∧ B ≤ g ∧ g < w.heap.size := by
  rcases h.2 with ⟨_, h0⟩ | ⟨g, cap, cur, rfl, hB, hb, hnc, _⟩
  · omega
  · exact ⟨g, cap, rfl, hnc, hB, (Array.getElem?_eq_some_iff.1 hb).1⟩
theorem own_in {w : World} {B g n c : Nat} {E : List ByteArray} (h : Own w B (.slice (some ⟨g, 0, none⟩) n c) E) (j : Nat) (hj : j < E.length) : w.cell? ⟨g, j, none⟩ = some (.string (E.getD j ⟨#[]⟩)) := by
  obtain ⟨g', o, c', e, _, _, hc⟩ := h.txt.isSome (by omega)
  simp only [Value.slice.injEq, Option.some.injEq, Addr.mk.injEq, and_true] at e
  obtain ⟨⟨rfl, rfl⟩, _⟩ := e
  have := hc j hj
  rw [Nat.zero_add] at this
  rw [this, List.getD_eq_getElem?_getD, List.getElem?_eq_getElem hj]
  rfl
/-- A pool's group, in memory. -/
theorem StX.group {X : Nat → Prop} {B : Nat} {w : World} {x : Px} {l : List (Int × Int)} {ds : Nat → Dv} {aw : Nat → Bool} {K : Nat} {P : World → Prop} (h : StX X B w x l ds aw K P) (k : Nat) (hk : k < l.length) :
    ∃ g o, x.ga = some ⟨g, o, none⟩ ∧ g < w.heap.size ∧ w.cell? ⟨g, o + k * 2, none⟩ = some (.int .i64 l[k].1) ∧ w.cell? ⟨g, o + k * 2 + 1, none⟩ = some (.int .i64 l[k].2) ∧ k < x.gn ∧ x.gn ≤ 4 := by
  have h4 := h.right.1.few
  obtain ⟨a, n, c, hv, hg, _⟩ := h.meas
  obtain ⟨ga, gn, gc, sc, lb, n8, ab⟩ := x
  unfold Px.g at hv
  cases hv
  obtain ⟨g, o, ha, hG⟩ := hg.2.2 k hk
  have h2 : l.length = gn := hg.2.1
  exact ⟨g, o, ha, hG.lt, hG.c0, hG.c1, by show k < gn; omega, by show gn ≤ 4; omega⟩
/-- What Write and Mend keep beside the devices: boxes, the columns and their texts. -/
structure Kp8 (P : World → Prop) (x : Px) (k t : Int) (b g1 g2 m : Nat) (L : List C) (E : List ByteArray) (w : World) : Prop where
  p : P w
  x : BoxX x b w
  y : BoxP k t (b + 1) w
  c : ∀ j (h : j < L.length), IsC w g1 (j * 4) L[j]
  t : ∀ j, j < m → w.cell? ⟨g2, j, none⟩ = some (.string (E.getD j ⟨#[]⟩))
theorem New.in_ {B : Nat} {w w' : World} {P : World → Prop} {X : Nat → Prop} {B' : Nat} {x : Px} {l : List (Int × Int)} {ds : Nat → Dv} {aw : Nat → Bool} {K : Nat} {Q : World → Prop} (h : StX X B' w x l ds aw K Q) (hb : Below w.heap.size w w') (hq : New w.heap.size w' P) (_ : B = B') : StX X B' w' x l ds aw K (fun w => Q w ∧ P w) := h.add hb hq

section
variable {B : Nat} {w : World} {x : Px} {l : List (Int × Int)} {ds : Nat → Dv} {aw : Nat → Bool} {K : Nat} {P : World → Prop}
set_option maxHeartbeats 4000000 in
theorem write8_ok (h : St B w x l ds aw K P) (k t z : Nat) (hBl : Blk l x.sc k t z) (s : ByteArray) (hs : s.size ≤ 1000) (hsz : s.size = z * 64) (hP : Puts x.n x.sc (colsOf l k t z) (encOf l k t z s)) (hK : K < 4000000000) :
    Calls Tryz.prog 6 #[x.val, .agg #[.int .i64 (k : Int), .int .i64 (t : Int)], .string s] w fun e w' =>
      e = .returned (.tuple #[.int .i64 (failN ds aw (colsOf l k t z) : Int), .int .i64 (errN (l[k]'hBl.hk) (failN ds aw (colsOf l k t z)))]) ∧
      St B w' x l (wrTo ds aw (colsOf l k t z) (encOf l k t z s) (colsOf l k t z).length) aw (K + 32) P ∧ Below B w w' := by
  obtain ⟨_, h32⟩ := h.right.1.devs h.right.2
  have hbd := hBl.bounds
  obtain ⟨wa, w2, ea, e2, z2, H2, b2⟩ := boxes8 h k t 31 26
  have HA := Lib.hid ea
  have HE2 := Lib.hid e2
  have HB2 := Lib.hid b2
  have hBw := h.lt.2
  have HE := Lib.hid (encoded_any H2 k t ⟨by omega, by omega⟩ ⟨by omega, by omega⟩ s hs)
  have HST := Lib.hid H2
  have HBL := Lib.hid hBl
  have HP := Lib.hid hP
  have HSZ := Lib.hid hsz
  obtain ⟨_, ⟨x0, x1, x2, x3⟩, y0, y1⟩ := H2.out
  have hmm := @run_makeMap Tryz.prog
  unfold Px.val at HE ⊢
  generalize hL : colsOf l k t z = L
  generalize hEn : encOf l k t z s = E
  have HL := Lib.hid hL
  have HEN := Lib.hid hEn
  clear h H2 ea e2 b2 hP hsz hL hEn
  go_enter Tryz.func6, Tryz.ntmps6
  go_wp2_with (first | (rw [HA.out, HE2.out]; fail))
  rw [HA.out, HE2.out]
  go_wp2_with fail
  refine HE.out.mono ?_
  rintro e w3 ⟨v1, v2, er, rfl, he, b3⟩
  rcases he with ⟨hno, _, _, _⟩ | ⟨k', t', z', ek, et, es, hB', rfl, hN⟩
  · exfalso
    have := mayT_iff.2 ⟨k, t, z, rfl, rfl, HSZ.out, HBL.out⟩
    rw [this] at hno
    cases hno
  · obtain rfl : k = k' := by omega
    obtain rfl : t = t' := by omega
    obtain rfl : z = z' := by have := HSZ.out; omega
    rw [HL.out, HEN.out] at hN
    have HP' := Lib.hid (show Puts x.n x.sc L E by rw [← HL.out, ← HEN.out]; exact HP.out)
    have HST3 := Lib.hid (HST.out.add b3 hN)
    have HB3 := Lib.hid (next HB2.out b3)
    clear x0 x1 x2 x3 y0 y1 b3 HST HB2 hN HE HP ek et es
    obtain ⟨hc3, ht3⟩ := HST3.out.out.2
    obtain ⟨m, hm⟩ : ∃ m, L.length = m := ⟨_, rfl⟩
    have hEm : E.length = m := by rw [HP'.out.len, hm]
    have hm0 : 0 < m := by rw [← hm]; exact HP'.out.pos
    have hm32 : m ≤ 32 := by rw [← hm]; exact HP'.out.few
    obtain ⟨g1, c1, rfl, hgc1, hg1, _⟩ := hc3.some (by omega)
    obtain ⟨g2, c2, rfl, hgc2, hg2, _⟩ := own_ex ht3 (by omega)
    have HST4 := Lib.hid (HST3.out.mono (Q := Kp8 P x k t w.heap.size g1 g2 m L E) fun w' h => ⟨h.1.1, h.1.2.1, h.1.2.2, ownC_in h.2.1, fun j hj => own_in h.2.2 j (by omega)⟩)
    rw [hm] at hgc1 ⊢
    rw [hEm] at hgc2 ⊢
    clear hc3 ht3 HST3 hg1 hg2
    have HM := Lib.hid hm
    have HEM := Lib.hid hEm
    clear hm hEm
    have hmb : SMap (w3.alloc (.map #[] 0)) w3.heap.size 0 [] := SMap.made w3
    have HST5 : Hid (StX (fun k => k = w3.heap.size) B (w3.alloc (.map #[] 0)) x l ds aw K (Kp8 P x k t w.heap.size g1 g2 m L E)) := Lib.hid (HST4.out.turnX (Turn.of_below (boxed w3 _)) (fun k hk => .inr (by omega)) (fun k hk => by simp; omega) HST4.out.lt.2)
    have HB5 := Lib.hid ((HB3.out.mono hBw).trans ((boxed w3 (.map #[] 0)).mono (Nat.le_trans hBw HB3.out.size)))
    go_wp2_with fail
    generalize w3.alloc (.map #[] 0) = w5 at *
    generalize w3.heap.size = mb at *
    have HMB := Lib.hid hmb
    clear hmb HST4 HB3
    go_loopw [28] (fun i wr => ∃ j : Nat, j ≤ m ∧ i = .int .i64 j ∧ StX (fun k => k = mb) B wr x l (wrTo ds aw L E j) aw (K + j) (Kp8 P x k t w.heap.size g1 g2 m L E) ∧ SMap wr mb j (faTo (hereB ds aw) L j) ∧ Below B w wr) (fun i _ => m - (intOf i).toNat)
    case atStart => exact ⟨0, Nat.zero_le _, rfl, HST5.out, HMB.out, HB5.out⟩
    case round =>
      obtain ⟨j, hj, rfl, hst, hsm, hbw⟩ := hrel
      have HS := Lib.hid hst
      have HSM := Lib.hid hsm
      have HBW := Lib.hid hbw
      clear hst hsm hbw
      obtain ⟨_, ⟨x0, x1, x2, x3⟩, ⟨y0, y1⟩, hc, htx⟩ := HS.out.out
      by_cases hlt : j < m
      · have hc' := hc j (by rw [HM.out]; exact hlt)
        have ht' := htx j hlt
        obtain ⟨d0, d1⟩ := HP'.out.dev j (by rw [HM.out]; exact hlt)
        obtain ⟨a0, a1⟩ := HP'.out.at_ j (by rw [HM.out]; exact hlt)
        have hsz := HP'.out.size j (by rw [HEM.out]; exact hlt)
        have HW1 : Hid (wrTo ds aw L E (j + 1) = putD (wrTo ds aw L E j) aw (devN L j) (atN L j) (E.getD j ⟨#[]⟩)) := Lib.hid rfl
        have HF1 : Hid (faTo (hereB ds aw) L (j + 1) = if hereB ds aw (devN L j) then faTo (hereB ds aw) L j else putN (faTo (hereB ds aw) L j) (devN L j)) := Lib.hid rfl
        have HHR := Lib.hid (wrTo_here ds aw L E j)
        generalize hTX : E.getD j ⟨#[]⟩ = tx at *
        have HTX := Lib.hid hTX
        clear hTX
        generalize devN L j = d at *
        generalize atN L j = a at *
        generalize hcc : L[j]'(by rw [HM.out]; exact hlt) = cc at *
        obtain ⟨e0, e1, e2, e3⟩ := hc'
        clear hc htx hcc
        obtain ⟨cd, ca, cp, cr⟩ := cc
        simp only at d0 a0 e0 e1 e2 e3
        subst d0 a0
        have hb6 := boxed wr (.cells #[.int .i64 (d : Int), .int .i64 (a : Int), .bool cp, .int .i64 cr] 44)
        have HS6 := Lib.hid (HS.out.add hb6 (BoxC.new wr ⟨d, a, cp, cr⟩ _ (Nat.le_refl _) 44))
        have HSM6 := Lib.hid (HSM.out.same (hb6.block mb HSM.out.lt))
        have HBW6 := Lib.hid (HBW.out.trans (hb6.mono HS.out.lt.2))
        go_wp2_with fail
        clear hb6 x0 x1 x2 x3 y0 y1 ht' e0 e1 e2 e3
        generalize wr.alloc (.cells #[.int .i64 (d : Int), .int .i64 (a : Int), .bool cp, .int .i64 cr] 44) = w6 at *
        generalize wr.heap.size = bc at *
        have HPU := Lib.hid (put_any (HS6.out.below ((Below.refl _ w6).drew)) ⟨d, a, cp, cr⟩ d a rfl d1 rfl a1 tx hsz (by omega))
        rw [HHR.out] at HPU
        obtain ⟨⟨_, ⟨x0, x1, x2, x3⟩, _, _, htx⟩, z0, z1, z2', z3⟩ := HS6.out.out
        have ht' := (htx j hlt).trans (by rw [HTX.out])
        clear htx
        have q1 : (0 : Int) ≤ (j : Int) := by omega
        have q2 : (j : Int) < (m : Int) := by omega
        unfold Px.val C.val at HPU
        go_region_held3 (fun W => W.cell? ⟨w.heap.size, 0, none⟩ = some (.slice x.ga x.gn x.gc) ∧ W.cell? ⟨w.heap.size, 1, none⟩ = some (.int .i64 x.sc) ∧ W.cell? ⟨w.heap.size, 2, none⟩ = some (.slice (some ⟨x.lb, 0, none⟩) x.n x.n) ∧ W.cell? ⟨w.heap.size, 3, none⟩ = some (.slice (some ⟨x.ab, 0, none⟩) x.n x.n) ∧ W.cell? ⟨bc, 0, none⟩ = some (.int .i64 (d : Int)) ∧ W.cell? ⟨bc, 1, none⟩ = some (.int .i64 (a : Int)) ∧ W.cell? ⟨bc, 2, none⟩ = some (.bool cp) ∧ W.cell? ⟨bc, 3, none⟩ = some (.int .i64 cr) ∧ W.cell? ⟨g2, j, none⟩ = some (.string tx))
          (first | exact ⟨x0, x1, x2, x3, z0, z1, z2', z3, ht'⟩ | exact ⟨k0, k1, k2, k3, k4, k5, k6, k7, k8⟩)
          (first | (go_at_call 14; refine HPU.out.mono ?_; rintro e w7 ⟨rfl, h7, b7, hX7⟩; have HS7 := Lib.hid h7; obtain ⟨⟨_, ⟨k0, k1, k2, k3⟩, _, _, htx7⟩, k4, k5, k6, k7⟩ := h7.out; have k8 := (htx7 j hlt).trans (by rw [HTX.out]); clear htx7 h7))
        have HB7 := Lib.hid (HBW6.out.drew.trans b7)
        have HX7 := Lib.hid (hX7 mb rfl)
        clear b7 hX7 x0 x1 x2 x3 z0 z1 z2' z3 ht' HPU
        cases hh : hereB ds aw d with
        | true =>
          go_wp2
          go_roundw
          case rel =>
            refine ⟨j + 1, by omega, by go_num, ?_, ?_, HB7.out⟩
            · rw [HW1.out]
              exact HS7.out.mono fun w h => h.1
            · rw [HF1.out, hh, if_pos rfl]
              obtain ⟨h1, D, h2, h3⟩ := HSM6.out.same HX7.out
              exact ⟨h1, D, h2.mono (Nat.le_succ _), h3⟩
          case measure => simp [intOf]; omega
        | false =>
          obtain ⟨w8, hr8, hs8, ht8⟩ := SMap.put (HSM6.out.same HX7.out) d (by omega) (by unfold maxLen; omega)
          have HS8 := Lib.hid hs8
          have HT8 := Lib.hid ht8
          clear hs8 ht8
          go_wp2
          go_roundw
          case rel =>
            have tX : Turn (fun k => k = mb) w7 w8 := (Turn.refl _ w7).mapTurned rfl HT8.out
            refine ⟨j + 1, by omega, by go_num, ?_, ?_, HB7.out.trans (tX.below (fun k hk => ?_) HS7.out.lt.2)⟩
            · rw [HW1.out]
              exact (HS7.out.mono fun w h => h.1).turnX tX (fun k hk => .inl hk) (fun k hk => by rw [hk]; exact HS8.out.lt) HS7.out.lt.2
            · rw [HF1.out, hh, if_neg (by simp)]
              exact HS8.out
            · rw [hk]
              obtain ⟨_, _, fp, F, bs, hF⟩ := HS7.out
              exact hF.ge mb (hF.xfp mb rfl)
          case measure => simp [intOf]; omega
      · obtain rfl : j = m := by omega
        have hkl := hBl.hk
        obtain ⟨gg, og, ega, ilt, i0, i1, hkg, hg4⟩ := HS.out.group k hkl
        have hok := hBl.right.all k hkl
        have HNL : Hid (failN ds aw L = (faTo (hereB ds aw) L j).length) := Lib.hid (by unfold failN; rw [HM.out])
        obtain ⟨N, hN⟩ : ∃ N, (faTo (hereB ds aw) L j).length = N := ⟨_, rfl⟩
        rw [hN] at HNL
        generalize hlk : l[k] = lk at i0 i1 hok
        obtain ⟨kk, u⟩ := lk
        have HLK := Lib.hid hlk
        simp only at i0 i1
        rw [ega] at x0 ⊢
        have hN32 := HSM.out.le
        rw [hN] at hN32
        have hlen := fun (q : Ext wr) ty => (HSM.out.same (q.h.block mb HSM.out.lt)).len ty
        rw [hN] at hlen
        have CS : Hid (∀ q : Ext wr, Calls Tryz.prog 15 #[.agg #[.int .i64 kk, .int .i64 u]] q.v fun e w' => e = .returned (.int .i64 (spareN (kk, u))) ∧ ∃ q' : Ext wr, w' = q'.v) := Lib.hid (Ext.calls fun w' hb => spared_any kk u w' hok)
        have lx : w.heap.size < wr.heap.size := World.block_lt_of_cell? wr _ x0
        have ly : w.heap.size + 1 < wr.heap.size := World.block_lt_of_cell? wr _ y0
        have g0 := fun q : Ext wr => q.cell x0 lx
        have g4 := fun q : Ext wr => q.cell y0 ly
        have g5 := fun q : Ext wr => q.cell i0 ilt
        have g6 := fun q : Ext wr => q.cell i1 ilt
        generalize hsp : spareN (kk, u) = sp at *
        have q1 : (k : Int) < (x.gn : Int) := by omega
        have HSW := Lib.hid hsp
        clear hsp hok hlk i0 i1
        go_wp2_with fail
        haveI hne : Nonempty (Ext wr) := Ext.some wr
        refine wp_region_family (Ext.v (W := wr)) (by kernel_rfl) (by kernel_rfl) ⟨⟨_, (Below.refl _ wr).drew⟩, rfl⟩ ?_
        repeat (go_big_quiet_step (first | (go_at_call 15; exact CS.out _)))
        refine wpQuiet_nil ?_
        rintro w7 ⟨⟨w4, K4⟩, rfl⟩
        have hl4 : ∀ ty, (Builtin.len_ #[57] ty #[.map (some mb)]).run Tryz.prog w7 = .ok (.int .i64 (N : Int)) w7 := hlen ⟨w7, K4⟩
        have HFIN : Hid (St B w7 x l (wrTo ds aw L E L.length) aw (K + 32) P ∧ Below B w w7) := Lib.hid (by
          rw [HM.out]
          exact ⟨((((HS.out.below K4).mono fun w h => h.p).sub (fun _ h => h.elim)).more (by omega)), HBW.out.trans (K4.mono HS.out.lt.2)⟩)
        clear hlen g0 g4 g5 g6 x0 x1 x2 x3 y0 y1 hc htx
        by_cases hcmp : sp < (N : Int)
        · have d1 : decide (sp < (N : Int)) = true := by simpa using hcmp
          go_wp2
          go_ret2
          refine ⟨?_, HFIN.out⟩
          rw [HNL.out, HLK.out, errN, HSW.out, if_pos hcmp]
          rfl
        · have d1 : decide (sp < (N : Int)) = false := by simpa using hcmp
          go_wp2
          go_ret2
          refine ⟨?_, HFIN.out⟩
          rw [HNL.out, HLK.out, errN, HSW.out, if_neg (by omega)]
          rfl
end
end Go.Proofs.YtlhnmcopioeboaaGreat
