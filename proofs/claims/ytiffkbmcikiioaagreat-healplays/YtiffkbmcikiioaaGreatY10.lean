/-
  Contracts of the kit's shelf, laid at this seat's dump (plain mode of the kit's own script).
  Plain facts on a text's words and its sum (no program is named here).
  What le's U32, U64, Int and Pad answer, and that the document's two examples hold ('awake').
  U32 and Int at every number, as one list each: nothing of a number that is none.
  The document's answers, and Pad, at every input, as one list each.
  fletch.Words: the function that it answers hands out the text's words, one by one.
  fletch.grow, Sum, More: what they answer.
  Two sums compared: an array of four numbers is another one if all its numbers are the other's.
  fletch.Sum, More: what they answer; the document's examples.
  A sum that came in, opened: four numbers of 64 bits.
-/
import Derived.Shelf.Strings.Builder1
import Derived.Shelf.Strings.Builder2
import Derived.Shelf.Strings.OnBuilder
import Derived.Shelf.Strings.BuilderF
import Derived.Shelf.Strings.Prefix
import Derived.Shelf.Bits.Mul64
import Derived.Shelf.Strings.Repeat
import Derived.Test.YtiffkbmcikiioaaGreatProg
import Derived.Test.YtiffkbmcikiioaaGreatY09
import Derived.Test.YtiffkbmcikiioaaGreatY08
import Derived.Shelf.Abstract
import Derived.Shelf.RegionOpen
import Derived.OwnWalkIn
import Derived.TacticsInMore
import Derived.LoopNIn
import Derived.LoopIn
import Derived.Test.YtiffkbmcikiioaaGreatChecked
import Derived.WalkKit
import Derived.ChangeKeysEq
import Derived.Laws.StructEq
import Derived.Lib.Hide
import Derived.ProofKit
import Derived.OpenShut
import Derived.Laws.IdiomArrays
import Derived.ChangeSame

/- Contracts of the kit's shelf, laid at this seat's dump (plain mode of the kit's own script). -/
namespace Go.Proofs
open Go.Shelf
def Tryz.lays156_ren : Go.Shelf.Ren := ⟨fun | 156 => 126 | 165 => 141 | 166 => 142 | 169 => 143 | 240 => 150 | 241 => 151 | 276 => 156 | 277 => 157 | n => n, fun | 31 => 60 | 9 => 9 | 3 => 3 | 4 => 4 | 0 => 0 | 20 => 20 | 72 => 207 | 76 => 211 | 70 => 205 | 37 => 79 | 75 => 210 | 127 => 221 | 164 => 227 | 5 => 5 | 80 => 213 | n => n, fun | n => n⟩
theorem Tryz.lays156 : Go.Proofs.Lays.n156 Tryz.prog Tryz.lays156_ren := {
  mixed := by kernel_rfl
  f156 := Tryz.func126.trans (congrArg some (by kernel_rfl))
  f165 := Tryz.func141.trans (congrArg some (by kernel_rfl))
  f166 := Tryz.func142.trans (congrArg some (by kernel_rfl))
  f169 := Tryz.func143.trans (congrArg some (by kernel_rfl))
  f240 := Tryz.func150.trans (congrArg some (by kernel_rfl))
  f241 := Tryz.func151.trans (congrArg some (by kernel_rfl))
  f276 := Tryz.func156.trans (congrArg some (by kernel_rfl))
  f277 := Tryz.func157.trans (congrArg some (by kernel_rfl))
  t0 := Tryz.underlying0
  a0 := Tryz.isAgg0
  z0 := Tryz.sizeOf0
  v0 := Tryz.zeroValue0
  t3 := Tryz.underlying3
  a3 := Tryz.isAgg3
  z3 := Tryz.sizeOf3
  v3 := Tryz.zeroValue3
  t4 := Tryz.underlying4
  a4 := Tryz.isAgg4
  z4 := Tryz.sizeOf4
  v4 := Tryz.zeroValue4
  t9 := Tryz.underlying9
  a9 := Tryz.isAgg9
  z9 := Tryz.sizeOf9
  v9 := Tryz.zeroValue9
  t20 := Tryz.underlying20
  a20 := Tryz.isAgg20
  z20 := Tryz.sizeOf20
  v20 := Tryz.zeroValue20
  t31 := Tryz.underlying60
  a31 := Tryz.isAgg60
  z31 := Tryz.sizeOf60
  v31 := Tryz.zeroValue60
  t37 := Tryz.underlying79
  a37 := Tryz.isAgg79
  z37 := Tryz.sizeOf79
  v37 := Tryz.zeroValue79
  t70 := Tryz.underlying205
  a70 := Tryz.isAgg205
  z70 := Tryz.sizeOf205
  v70 := Tryz.zeroValue205
  t72 := Tryz.underlying207
  a72 := Tryz.isAgg207
  z72 := Tryz.sizeOf207
  v72 := Tryz.zeroValue207
  t75 := Tryz.underlying210
  a75 := Tryz.isAgg210
  z75 := Tryz.sizeOf210
  v75 := Tryz.zeroValue210
  t76 := Tryz.underlying211
  a76 := Tryz.isAgg211
  z76 := Tryz.sizeOf211
  v76 := Tryz.zeroValue211
  t127 := Tryz.underlying221
  a127 := Tryz.isAgg221
  z127 := Tryz.sizeOf221
  v127 := Tryz.zeroValue221
  t164 := Tryz.underlying227
  a164 := Tryz.isAgg227
  z164 := Tryz.sizeOf227
  v164 := Tryz.zeroValue227 }
theorem Tryz.Builder_Extra_156 : Builder.Extra Tryz.prog Tryz.lays156_ren := {
  sizeBuilder := by kernel_rfl
  liesBuilder := by kernel_rfl
  t5 := Tryz.underlying5
  a5 := Tryz.isAgg5
  z5 := Tryz.sizeOf5
  v5 := Tryz.zeroValue5
  infoByte := by kernel_rfl
  cellsByte := by kernel_rfl
  sizeByte := by kernel_rfl
  neB5 := by decide }
open Go.RowKit in
theorem Tryz.strings_Join_none (a : Option Addr) (c : Nat) (sep : ByteArray) (w : World) :
    Calls Tryz.prog 126 #[.slice a 0 c, .string sep] w fun e w' => e = .returned (.string ⟨#[]⟩) ∧ w' = w := Any.strings_Join_none Tryz.lays156 Tryz.Builder_Extra_156 a c sep w
open Go.RowKit in
theorem Tryz.strings_Join (bk o c : Nat) (xs : List ByteArray) (sep : ByteArray) (w : World) (hcells : ∀ (j : Nat) x, xs[j]? = some x → w.cell? ⟨bk, o + j, none⟩ = some (.string x)) (hbk : bk < w.heap.size) (hN : xs.length ≤ 140737488355328) (hcap : xs.length ≤ c) (hlen : (Lib.join (xs.map (·.data.toList)) sep.data.toList).length ≤ 140737488355328) :
    Calls Tryz.prog 126 #[.slice (some ⟨bk, o, none⟩) xs.length c, .string sep] w fun e w' => e = .returned (.string ⟨(Lib.join (xs.map (·.data.toList)) sep.data.toList).toArray⟩) ∧ Below w.heap.size w w' := Any.strings_Join Tryz.lays156 Tryz.Builder_Extra_156 bk o c xs sep w hcells hbk hN hcap hlen
def Tryz.lays105_ren : Go.Shelf.Ren := ⟨fun | 105 => 130 | 212 => 145 | 99 => 146 | 165 => 141 | 166 => 142 | 170 => 147 | 169 => 143 | 263 => 153 | 264 => 154 | 206 => 155 | 240 => 150 | 241 => 151 | 276 => 156 | 277 => 157 | n => n, fun | 9 => 9 | 3 => 3 | 4 => 4 | 20 => 20 | 0 => 0 | 46 => 150 | 109 => 215 | 5 => 5 | 72 => 207 | 76 => 211 | 51 => 184 | 146 => 223 | 53 => 27 | 148 => 225 | 70 => 205 | 37 => 79 | 75 => 210 | 127 => 221 | 164 => 227 | 80 => 213 | n => n, fun | n => n⟩
theorem Tryz.lays105 : Go.Proofs.Lays.n105 Tryz.prog Tryz.lays105_ren := {
  mixed := by kernel_rfl
  f99 := Tryz.func146.trans (congrArg some (by kernel_rfl))
  f105 := Tryz.func130.trans (congrArg some (by kernel_rfl))
  f165 := Tryz.func141.trans (congrArg some (by kernel_rfl))
  f166 := Tryz.func142.trans (congrArg some (by kernel_rfl))
  f169 := Tryz.func143.trans (congrArg some (by kernel_rfl))
  f170 := Tryz.func147.trans (congrArg some (by kernel_rfl))
  f206 := Tryz.func155.trans (congrArg some (by kernel_rfl))
  f212 := Tryz.func145.trans (congrArg some (by kernel_rfl))
  f240 := Tryz.func150.trans (congrArg some (by kernel_rfl))
  f241 := Tryz.func151.trans (congrArg some (by kernel_rfl))
  f263 := Tryz.func153.trans (congrArg some (by kernel_rfl))
  f264 := Tryz.func154.trans (congrArg some (by kernel_rfl))
  f276 := Tryz.func156.trans (congrArg some (by kernel_rfl))
  f277 := Tryz.func157.trans (congrArg some (by kernel_rfl))
  t0 := Tryz.underlying0
  a0 := Tryz.isAgg0
  z0 := Tryz.sizeOf0
  v0 := Tryz.zeroValue0
  t3 := Tryz.underlying3
  a3 := Tryz.isAgg3
  z3 := Tryz.sizeOf3
  v3 := Tryz.zeroValue3
  t4 := Tryz.underlying4
  a4 := Tryz.isAgg4
  z4 := Tryz.sizeOf4
  v4 := Tryz.zeroValue4
  t5 := Tryz.underlying5
  a5 := Tryz.isAgg5
  z5 := Tryz.sizeOf5
  v5 := Tryz.zeroValue5
  t9 := Tryz.underlying9
  a9 := Tryz.isAgg9
  z9 := Tryz.sizeOf9
  v9 := Tryz.zeroValue9
  t20 := Tryz.underlying20
  a20 := Tryz.isAgg20
  z20 := Tryz.sizeOf20
  v20 := Tryz.zeroValue20
  t37 := Tryz.underlying79
  a37 := Tryz.isAgg79
  z37 := Tryz.sizeOf79
  v37 := Tryz.zeroValue79
  t46 := Tryz.underlying150
  a46 := Tryz.isAgg150
  z46 := Tryz.sizeOf150
  v46 := Tryz.zeroValue150
  t51 := Tryz.underlying184
  a51 := Tryz.isAgg184
  z51 := Tryz.sizeOf184
  v51 := Tryz.zeroValue184
  t53 := Tryz.underlying27
  a53 := Tryz.isAgg27
  z53 := Tryz.sizeOf27
  v53 := Tryz.zeroValue27
  t70 := Tryz.underlying205
  a70 := Tryz.isAgg205
  z70 := Tryz.sizeOf205
  v70 := Tryz.zeroValue205
  t72 := Tryz.underlying207
  a72 := Tryz.isAgg207
  z72 := Tryz.sizeOf207
  v72 := Tryz.zeroValue207
  t75 := Tryz.underlying210
  a75 := Tryz.isAgg210
  z75 := Tryz.sizeOf210
  v75 := Tryz.zeroValue210
  t76 := Tryz.underlying211
  a76 := Tryz.isAgg211
  z76 := Tryz.sizeOf211
  v76 := Tryz.zeroValue211
  t109 := Tryz.underlying215
  a109 := Tryz.isAgg215
  z109 := Tryz.sizeOf215
  v109 := Tryz.zeroValue215
  t127 := Tryz.underlying221
  a127 := Tryz.isAgg221
  z127 := Tryz.sizeOf221
  v127 := Tryz.zeroValue221
  t146 := Tryz.underlying223
  a146 := Tryz.isAgg223
  z146 := Tryz.sizeOf223
  v146 := Tryz.zeroValue223
  t148 := Tryz.underlying225
  a148 := Tryz.isAgg225
  z148 := Tryz.sizeOf225
  v148 := Tryz.zeroValue225
  t164 := Tryz.underlying227
  a164 := Tryz.isAgg227
  z164 := Tryz.sizeOf227
  v164 := Tryz.zeroValue227 }
theorem Tryz.Builder_Extra_105 : Builder.Extra Tryz.prog Tryz.lays105_ren := {
  sizeBuilder := by kernel_rfl
  liesBuilder := by kernel_rfl
  t5 := Tryz.underlying5
  a5 := Tryz.isAgg5
  z5 := Tryz.sizeOf5
  v5 := Tryz.zeroValue5
  infoByte := by kernel_rfl
  cellsByte := by kernel_rfl
  sizeByte := by kernel_rfl
  neB5 := by decide }
open Go.RowKit Go.Lib in
theorem Tryz.strings_Repeat (s : ByteArray) (c : Nat) (w : World) (hc : c ≤ 9223372036854775807) (hlen : s.size * c ≤ 140737488355328) :
    Calls Tryz.prog 130 #[.string s, .int .i64 c] w fun e w' => e = .returned (.string ⟨(Lib.repeatL s.data.toList c).toArray⟩) ∧ Below w.heap.size w w' := Any.strings_Repeat Tryz.lays105 Tryz.Builder_Extra_105 s c w hc hlen
end Go.Proofs

/- Plain facts on a text's words and its sum (no program is named here). -/
namespace Go.Proofs.YtiffkbmcikiioaaGreat.M
set_option maxRecDepth 100000

/-- A sum's four numbers. -/
structure Q where
  a : Nat
  b : Nat
  c : Nat
  d : Nat
/-- They are numbers of 64 bits. -/
structure Q.Ok (q : Q) : Prop where
  a : q.a < 18446744073709551616
  b : q.b < 18446744073709551616
  c : q.c < 18446744073709551616
  d : q.d < 18446744073709551616
/-- A word more. -/
def stepQ (q : Q) (x : Nat) : Q :=
  ⟨(q.a + x) % 18446744073709551616, (q.b + (q.a + x) % 18446744073709551616) % 18446744073709551616,
    (q.c + (q.b + (q.a + x) % 18446744073709551616) % 18446744073709551616) % 18446744073709551616,
    (q.d + (q.c + (q.b + (q.a + x) % 18446744073709551616) % 18446744073709551616) % 18446744073709551616) % 18446744073709551616⟩
/-- Words more. -/
def sumQ (q : Q) (ws : List Nat) : Q := ws.foldl stepQ q
/-- The sum of nothing. -/
def zeroQ : Q := ⟨0, 0, 0, 0⟩

theorem stepQ_ok (q : Q) (x : Nat) : (stepQ q x).Ok := ⟨Nat.mod_lt _ (by decide), Nat.mod_lt _ (by decide), Nat.mod_lt _ (by decide), Nat.mod_lt _ (by decide)⟩
theorem sumQ_ok : ∀ (ws : List Nat) (q : Q), q.Ok → (sumQ q ws).Ok
  | [], _, h => h
  | x :: ws, q, _ => sumQ_ok ws (stepQ q x) (stepQ_ok q x)
theorem zeroQ_ok : zeroQ.Ok := ⟨by decide, by decide, by decide, by decide⟩
theorem sumQ_append (q : Q) (u v : List Nat) : sumQ q (u ++ v) = sumQ (sumQ q u) v := List.foldl_append
theorem sumQ_snoc (q : Q) (u : List Nat) (x : Nat) : sumQ q (u ++ [x]) = stepQ (sumQ q u) x := by rw [sumQ_append]; rfl
theorem sumQ_nil (q : Q) : sumQ q [] = q := rfl

/-- Word k of a text. -/
def wordAt (l : List UInt8) (k : Nat) : Nat := numL ((l.drop (4 * k)).take 4)
/-- A text's whole words. -/
def wordsL (l : List UInt8) : List Nat := (List.range (l.length / 4)).map (wordAt l)

theorem wordsL_length (l : List UInt8) : (wordsL l).length = l.length / 4 := by simp [wordsL]
theorem wordsL_get {l : List UInt8} {k x : Nat} (h : (wordsL l)[k]? = some x) : k < l.length / 4 ∧ x = wordAt l k := by
  obtain ⟨hk, hx⟩ := List.getElem?_eq_some_iff.1 h
  rw [wordsL_length] at hk
  refine ⟨hk, ?_⟩
  rw [← hx]; simp [wordsL]
theorem wordsL_at {l : List UInt8} {k : Nat} (h : k < l.length / 4) : (wordsL l)[k]? = some (wordAt l k) := by
  rw [List.getElem?_eq_getElem (by rw [wordsL_length]; exact h)]; simp [wordsL]
theorem wordAt_lt (l : List UInt8) (k : Nat) : wordAt l k < 4294967296 := by
  have h1 := numL_lt ((l.drop (4 * k)).take 4)
  have h2 : ((l.drop (4 * k)).take 4).length ≤ 4 := List.length_take_le _ _
  have h3 : (256 : Nat) ^ ((l.drop (4 * k)).take 4).length ≤ 256 ^ 4 := Nat.pow_le_pow_right (by omega) h2
  have h4 : (256 : Nat) ^ 4 = 4294967296 := by decide
  unfold wordAt; omega
theorem take_words {l : List Nat} {k x : Nat} (h : l[k]? = some x) : l.take (k + 1) = l.take k ++ [x] := by
  obtain ⟨hk, rfl⟩ := List.getElem?_eq_some_iff.1 h
  rw [List.take_succ_eq_append_getElem hk]
theorem wordsL_lt (l : List UInt8) : ∀ x ∈ wordsL l, x < 4294967296 := by
  intro x hx
  obtain ⟨k, _, rfl⟩ := List.mem_map.1 hx
  exact wordAt_lt l k
/-- The words of two texts one behind the other, the first one whole. -/
theorem wordsL_append (u v : List UInt8) (h : u.length % 4 = 0) : wordsL (u ++ v) = wordsL u ++ wordsL v := by
  have hu : (u ++ v).length / 4 = u.length / 4 + v.length / 4 := by rw [List.length_append]; omega
  apply List.ext_getElem?
  intro k
  by_cases hk : k < u.length / 4
  · rw [List.getElem?_append_left (by rw [wordsL_length]; exact hk), wordsL_at (by omega), wordsL_at hk]
    unfold wordAt
    rw [List.drop_append_of_le_length (by omega), List.take_append_of_le_length (by rw [List.length_drop]; omega)]
  · rw [List.getElem?_append_right (by rw [wordsL_length]; omega), wordsL_length]
    by_cases hk2 : k < u.length / 4 + v.length / 4
    · rw [wordsL_at (by omega), wordsL_at (by omega)]
      unfold wordAt
      rw [List.drop_append, List.drop_eq_nil_of_le (by omega), List.nil_append]
      rw [show 4 * k - u.length = 4 * (k - u.length / 4) by omega]
    · rw [List.getElem?_eq_none (by rw [wordsL_length]; omega), List.getElem?_eq_none (by rw [wordsL_length]; omega)]
end Go.Proofs.YtiffkbmcikiioaaGreat.M

/- What le's U32, U64, Int and Pad answer, and that the document's two examples hold ('awake'). -/
namespace Go.Proofs.YtiffkbmcikiioaaGreat
set_option maxRecDepth 100000
open Go.RowKit M

theorem pad_out (s : ByteArray) (t : Int) (w : World) (h : t < 1 ∨ 4096 < t) :
    Calls Tryz.prog 101 #[.string s, .int .i64 t] w fun e w' => e = .returned (.string s) ∧ w = w' := by
  rcases h with h | h
  · go_enter Tryz.func101, Tryz.ntmps101
    go_wp2
    go_ret
    exact ⟨rfl, rfl⟩
  · have h0 : ¬ t < 1 := by omega
    go_enter Tryz.func101, Tryz.ntmps101
    go_wp2
    go_ret
    exact ⟨rfl, rfl⟩

theorem pad_even (s : ByteArray) (k : Nat) (w : World) (hs : s.size ≤ maxLen) (h1 : 1 ≤ k) (h2 : k ≤ 4096) (hm : s.size % k = 0) :
    Calls Tryz.prog 101 #[.string s, .int .i64 k] w fun e w' => e = .returned (.string s) ∧ w = w' := by
  unfold maxLen at hs
  go_enter Tryz.func101, Tryz.ntmps101
  go_wp2
  go_ret
  exact ⟨rfl, rfl⟩
theorem pad_odd (s : ByteArray) (k r : Nat) (w : World) (hs : s.size ≤ 1099511627776) (h1 : 1 ≤ k) (h2 : k ≤ 4096) (hm : s.size % k = r) (hr : 0 < r) :
    Calls Tryz.prog 101 #[.string s, .int .i64 k] w fun e w' => e = .returned (.string ⟨(s.data.toList ++ List.replicate (k - r) 0).toArray⟩) ∧ Below w.heap.size w w' := by
  have hrk : r < k := by rw [← hm]; exact Nat.mod_lt _ (by omega)
  have e1 : (s.size : Int) % (k : Int) = (r : Int) := by rw [← hm]; simp
  have he : (k : Int) - (s.size : Int) % (k : Int) = ((k - r : Nat) : Int) := by rw [e1]; omega
  have HE := Lib.hid he
  clear he e1
  go_enter Tryz.func101, Tryz.ntmps101
  go_wp2_with fail
  rw [HE.out]
  refine (Tryz.strings_Repeat ⟨#[0]⟩ (k - r) _ (by omega) (by show 1 * (k - r) ≤ _; omega)).mono ?_
  rintro e w' ⟨rfl, hb⟩
  have hz : Lib.repeatL (ByteArray.mk #[0]).data.toList (k - r) = List.replicate (k - r) 0 := by
    have := Lib.repeatL_replicate 0 1 (k - r)
    simpa using this
  have hzl : (Lib.repeatL (ByteArray.mk #[0]).data.toList (k - r)).length ≤ 4096 := by rw [hz]; simp; omega
  generalize Lib.repeatL (ByteArray.mk #[0]).data.toList (k - r) = z at hz hzl
  have HZ := Lib.hid hz
  clear hz HE
  go_wp2
  go_ret
  refine ⟨?_, hb⟩
  rw [← HZ.out]
  have e : s ++ { data := z.toArray } = (⟨(s.data.toList ++ z).toArray⟩ : ByteArray) := by
    apply ByteArray.ext
    simp
  rw [← e]
  rfl

theorem pad_abcde (w : World) : Calls Tryz.prog 101 #[.string ⟨#[97, 98, 99, 100, 101]⟩, .int .i64 4] w fun e w' => e = .returned (.string ⟨#[97, 98, 99, 100, 101, 0, 0, 0]⟩) ∧ Below w.heap.size w w' :=
  pad_odd ⟨#[97, 98, 99, 100, 101]⟩ 4 1 w (by decide) (by decide) (by decide) (by decide) (by decide)

end Go.Proofs.YtiffkbmcikiioaaGreat

/- U32 and Int at every number, as one list each: nothing of a number that is none. -/
namespace Go.Proofs.YtiffkbmcikiioaaGreat
set_option maxRecDepth 100000
open Go.RowKit M

/-- U32's bytes: of a small number; nothing. -/
def u32L (n : Int) : List UInt8 := if 0 ≤ n ∧ n ≤ 4294967295 then layL n.toNat 4 else []
/-- Int's bytes: of a count; nothing. -/
def intL (n : Int) : List UInt8 := if 0 ≤ n ∧ n ≤ 4611686018427387903 then layL n.toNat 8 else []

theorem layL_ne {x k : Nat} (hk : 0 < k) : layL x k ≠ [] := by
  intro h
  have := layL_length k x
  rw [h] at this
  simp at this
  omega
theorem u32L_inj (n m : Int) (hn : u32L n ≠ []) (hm : u32L m ≠ []) : u32L n = u32L m ↔ n = m := by
  constructor
  · intro h
    by_cases h1 : 0 ≤ n ∧ n ≤ 4294967295
    · by_cases h2 : 0 ≤ m ∧ m ≤ 4294967295
      · rw [u32L, u32L, if_pos h1, if_pos h2] at h
        have := layL_inj (k := 4) (by show n.toNat < 4294967296; omega) (by show m.toNat < 4294967296; omega) h
        omega
      · exact absurd (by rw [u32L, if_neg h2]) hm
    · exact absurd (by rw [u32L, if_neg h1]) hn
  · rintro rfl; rfl
theorem intL_inj (n m : Int) (hn : intL n ≠ []) (hm : intL m ≠ []) : intL n = intL m ↔ n = m := by
  constructor
  · intro h
    by_cases h1 : 0 ≤ n ∧ n ≤ 4611686018427387903
    · by_cases h2 : 0 ≤ m ∧ m ≤ 4611686018427387903
      · rw [intL, intL, if_pos h1, if_pos h2] at h
        have := layL_inj (k := 8) (by show n.toNat < 18446744073709551616; omega) (by show m.toNat < 18446744073709551616; omega) h
        omega
      · exact absurd (by rw [intL, if_neg h2]) hm
    · exact absurd (by rw [intL, if_neg h1]) hn
  · rintro rfl; rfl
theorem lay8_iff (x y : Nat) (hx : x < 18446744073709551616) (hy : y < 18446744073709551616) : layL x 8 = layL y 8 ↔ x = y :=
  ⟨layL_inj (k := 8) hx hy, fun h => by rw [h]⟩
end Go.Proofs.YtiffkbmcikiioaaGreat

/- The document's answers, and Pad, at every input, as one list each. -/
namespace Go.Proofs.YtiffkbmcikiioaaGreat
set_option maxRecDepth 100000
open Go.RowKit M

/-- How many zero bytes are wanted. -/
def gap (n k : Nat) : Nat := (k - n % k) % k
/-- A text, padded to a multiple of k. -/
def padK (s : ByteArray) (k : Nat) : ByteArray := ⟨(s.data.toList ++ List.replicate (gap s.size k) 0).toArray⟩
/-- A text, padded: the text itself, where there is no such multiple. -/
def padB (s : ByteArray) (t : Int) : ByteArray := if 1 ≤ t ∧ t ≤ 4096 then padK s t.toNat else s

theorem padK_list (s : ByteArray) (k : Nat) : (padK s k).data.toList = s.data.toList ++ List.replicate (gap s.size k) 0 := rfl
theorem padK_size (s : ByteArray) (k : Nat) : (padK s k).size = s.size + gap s.size k := by
  rw [size_list, padK_list, List.length_append, List.length_replicate, ← size_list]
theorem gap_lt (n k : Nat) (hk : 1 ≤ k) : gap n k < k := Nat.mod_lt _ hk
theorem pad_pos (s : ByteArray) (k : Nat) (w : World) (hs : s.size ≤ 1099511627776) (h1 : 1 ≤ k) (h2 : k ≤ 4096) :
    Calls Tryz.prog 101 #[.string s, .int .i64 k] w fun e w' => e = .returned (.string (padK s k)) ∧ Below w.heap.size w w' := by
  have hlt : s.size % k < k := Nat.mod_lt _ h1
  by_cases hm : s.size % k = 0
  · refine (pad_even s k w (by unfold maxLen; omega) h1 h2 hm).mono fun e w' ⟨he, hw⟩ => ⟨?_, ?_⟩
    · rw [he]
      have e0 : gap s.size k = 0 := by rw [gap, hm, Nat.sub_zero, Nat.mod_self]
      have : padK s k = s := ext_list (by rw [padK_list, e0]; simp)
      rw [this]
    · rw [← hw]; exact Below.refl _ _
  · refine (pad_odd s k (s.size % k) w hs h1 h2 rfl (by omega)).mono fun e w' ⟨he, hw⟩ => ⟨?_, hw⟩
    rw [he]
    have e0 : gap s.size k = k - s.size % k := by rw [gap, Nat.mod_eq_of_lt (by omega)]
    have : padK s k = ⟨(s.data.toList ++ List.replicate (k - s.size % k) 0).toArray⟩ := ext_list (by rw [padK_list, e0])
    rw [this]
theorem pad_all (s : ByteArray) (t : Int) (w : World) (hs : s.size ≤ 1099511627776) :
    Calls Tryz.prog 101 #[.string s, .int .i64 t] w fun e w' => e = .returned (.string (padB s t)) ∧ Below w.heap.size w w' := by
  by_cases h : 1 ≤ t ∧ t ≤ 4096
  · obtain ⟨k, rfl⟩ := Int.eq_ofNat_of_zero_le (show 0 ≤ t by omega)
    rw [padB, if_pos h]
    exact pad_pos s k w hs (by omega) (by omega)
  · rw [padB, if_neg h]
    refine (pad_out s t w (by omega)).mono fun e w' ⟨he, hw⟩ => ⟨he, ?_⟩
    rw [← hw]; exact Below.refl _ _
theorem refPad_all (s : ByteArray) (t : Int) (w : World) (hs : s.size ≤ 1099511627776) :
    Calls Tryz.prog 108 #[.string s, .int .i64 t] w fun e w' => e = .returned (.string (padB s t)) ∧ w = w' := by
  by_cases h : 1 ≤ t ∧ t ≤ 4096
  · obtain ⟨k, rfl⟩ := Int.eq_ofNat_of_zero_le (show 0 ≤ t by omega)
    rw [padB, if_pos h]
    exact refPad_any s k w hs (by omega) (by omega)
  · rw [padB, if_neg h]
    exact refPad_out s t w (by omega)
end Go.Proofs.YtiffkbmcikiioaaGreat

/- fletch.Words: the function that it answers hands out the text's words, one by one. -/
namespace Go.Proofs.YtiffkbmcikiioaaGreat
set_option maxRecDepth 100000
open Go.RowKit Go.Shelf M
attribute [local go_sem] Oper.semAt_some

/-- A text's words: its bytes padded, four by four. -/
def wordsB (s : ByteArray) : List Nat := wordsL (padK s 4).data.toList

/-- How many bytes are left in a Bytes. -/
def leftIn (b : Nat) (w : World) : Nat := match w.cell? ⟨b, 0, none⟩ with | some (.string s) => s.size | _ => 0
theorem leftIn_has {w : World} {b : Nat} {s : ByteArray} (h : Has w b s) : leftIn b w = s.size := by rw [leftIn, h.1]
theorem pad4_size (s : ByteArray) : (padK s 4).size % 4 = 0 := by
  rw [padK_size]; exact mod_stop s.size 4 (by omega)
theorem Has.since {w w' : World} {b B : Nat} {s : ByteArray} (h : Has w b s) (hs : Since B w w') (hB : B ≤ b) : Has w' b s :=
  ⟨by rw [hs.cell (p := ⟨b, 0, none⟩) hB h.2.2]; exact h.1, by rw [hs.frozen (p := ⟨b, 0, none⟩) hB h.2.2]; exact h.2.1, Nat.lt_of_lt_of_le h.2.2 hs.size⟩
theorem tail_at (p : ByteArray) (a b : Nat) : tailB (tailB p a) b = tailB p (a + b) := ext_list (by rw [tailB_list, tailB_list, tailB_list, List.drop_drop])
theorem tail_zero (p : ByteArray) : tailB p 0 = p := ext_list (by rw [tailB_list]; rfl)

theorem words_any (s : ByteArray) (w : World) :
    Calls Tryz.prog 73 #[.string s] w fun e w' => e = .returned (.func (.func 99) #[] #[.pointer (some ⟨w.heap.size, 0, none⟩)]) ∧ w.alloc (.cells #[.string s] 9) = w' := by
  go_enter Tryz.func73, Tryz.ntmps73
  go_wp2
  go_ret
  exact ⟨rfl, rfl⟩

set_option maxHeartbeats 1000000 in
theorem words1_hands (n : Nat) (hn : 1 ≤ n) (bs : Nat) (s : ByteArray) (w : World) (hbs : w.cell? ⟨bs, 0, none⟩ = some (.string s)) (hlt : bs < w.heap.size) (hs : s.size ≤ 1099511627776) :
    Hands Fence.wide n Tryz.prog 99 #[.pointer (some ⟨bs, 0, none⟩)] (fun x : Nat => Value.int .u64 x) (wordsB s) w := fun l J Jx W hW hJ hJx hY h0 => by
  refine callsIn_of_wp Tryz.func99 rfl trivial ?_ rfl
  simp only [Tryz.ntmps99, List.size_toArray, List.length_cons, List.length_nil, Nat.reduceAdd, Nat.reduceSub, Array.replicate_succ, Array.replicate_zero, List.push_toArray, List.append_toArray, List.nil_append, List.cons_append]
  have hc : W.cell? ⟨bs, 0, none⟩ = some (.string s) := (hW.cell (p := ⟨bs, 0, none⟩) hlt).trans hbs
  have HY := Lib.hid hY
  have HJ := Lib.hid hJ
  have HJx := Lib.hid hJx
  clear hY hJ hJx
  gi_wp2_with fail
  refine ⟨trivial, ?_⟩
  refine (callsIn_wide.2 (pad_pos s 4 _ hs (by omega) (by omega))).mono ?_
  rintro e w1 ⟨rfl, b1⟩
  gi_wp2_with fail
  refine ⟨trivial, ?_⟩
  refine (callsIn_wide.2 (new_any (padK s 4) _)).mono ?_
  rintro e w2 ⟨rfl, h2, b2⟩
  have hb : W.heap.size ≤ w1.heap.size := b1.size
  have hJ2 : J 0 w2 := HJ.out 0 W w2 h0 (b1.trans (b2.mono b1.size))
  have hp4 := pad4_size s
  obtain ⟨N, hN⟩ : ∃ N, (padK s 4).size = 4 * N := ⟨(padK s 4).size / 4, by omega⟩
  have hNN : (wordsB s).length = N := by rw [wordsB, wordsL_length, ← size_list, hN]; omega
  have HW : Hid (∀ k, k < N → (wordsB s)[k]? = some (numL ((tailB (padK s 4) (4 * k)).data.toList.take 4))) := Lib.hid (fun k hk => by
    rw [tailB_list]; exact wordsL_at (by rw [← size_list, hN]; omega))
  have HN := Lib.hid hN
  have HNN := Lib.hid hNN
  clear hN hNN hp4 b1 b2 h0 hW hc hbs
  generalize w1.heap.size = b at h2 hb
  gi_wp2_with fail
  gi_loopw [4] (fun _ wr => ∃ k : Nat, k ≤ N ∧ Has wr b (tailB (padK s 4) (4 * k)) ∧ J k wr) (fun _ wr => leftIn b wr)
  case atStart => exact ⟨0, Nat.zero_le _, by rw [tail_zero]; exact h2, hJ2⟩
  case round =>
    obtain ⟨k, hk, hH, hJk⟩ := hrel
    have HL := Lib.hid (leftIn_has hH)
    by_cases hlt2 : k < N
    · obtain ⟨m, hm⟩ : ∃ m, (tailB (padK s 4) (4 * k)).size = m := ⟨_, rfl⟩
      have hm4 : 4 ≤ m := by rw [← hm, tailB_size, HN.out]; omega
      have HM := Lib.hid hm
      have hleft := left_any b _ wr hH
      rw [hm] at hleft
      have hu := mU32_ok W.heap.size b _ wr hH hb (by rw [hm]; exact hm4)
      clear hm
      rw [tail_at, show 4 * k + 4 = 4 * (k + 1) by omega] at hu
      have hx := HW.out k hlt2
      have hxl : numL ((tailB (padK s 4) (4 * k)).data.toList.take 4) < 4294967296 := by rw [tailB_list]; exact wordAt_lt _ k
      generalize numL ((tailB (padK s 4) (4 * k)).data.toList.take 4) = x at hu hx hxl
      have HX := Lib.hid hx
      have HU := Lib.hid hu
      have HE := Lib.hid hleft
      clear hx hu hleft
      gi_wp2_with fail
      refine ⟨trivial, ?_⟩
      refine (callsIn_wide.2 HE.out).mono ?_
      rintro e w3 ⟨rfl, rfl⟩
      gi_wp2_with fail
      refine ⟨trivial, ?_⟩
      refine (callsIn_wide.2 HU.out).mono ?_
      rintro e w3 ⟨rfl, h3, b3⟩
      obtain ⟨fn, tmps, assign, body, hy, hR⟩ := HY.out k x w3 HX.out (HJ.out k wr w3 hJk b3)
      have HRR := Lib.hid hR
      clear hR
      gi_wp2_with fail
      refine HRR.out.mono ?_
      rintro e w4 (⟨rfl, hJ4, hs4⟩ | ⟨rfl, hx4⟩)
      · have h4 := h3.since hs4 hb
        have HL4 := Lib.hid (leftIn_has h4)
        gi_wp2
        go_roundw
        case rel => exact ⟨k + 1, by omega, h4, hJ4⟩
        case measure =>
          rw [HL4.out, HL.out, tailB_size, tailB_size, HN.out]; omega
      · gi_wp2
        refine bodyPost_ret (results_none rfl _ _ _) rfl ?_
        exact ⟨⟨_, rfl⟩, .inr ⟨k + 1, by rw [HNN.out]; omega, hx4⟩⟩
    · have hleft := left_any b _ wr hH
      rw [tailB_size, HN.out, show 4 * N - 4 * k = 0 by omega] at hleft
      have HE := Lib.hid hleft
      clear hleft
      gi_wp2_with fail
      refine ⟨trivial, ?_⟩
      refine (callsIn_wide.2 HE.out).mono ?_
      rintro e w3 ⟨rfl, rfl⟩
      gi_wp2
      go_end0
      exact ⟨⟨_, rfl⟩, .inl (by rw [HNN.out, show N = k by omega]; exact hJk)⟩
end Go.Proofs.YtiffkbmcikiioaaGreat

/- fletch.grow, Sum, More: what they answer. -/
namespace Go.Proofs.YtiffkbmcikiioaaGreat
set_option maxRecDepth 100000
open Go.RowKit Go.Shelf M
attribute [local go_sem] Oper.semAt_some

/-- Block b holds the four numbers of a sum. -/
structure HoldsQ (W : World) (b : Nat) (q : Q) : Prop where
  c0 : W.cell? ⟨b, 0, none⟩ = some (.int .u64 q.a)
  c1 : W.cell? ⟨b, 1, none⟩ = some (.int .u64 q.b)
  c2 : W.cell? ⟨b, 2, none⟩ = some (.int .u64 q.c)
  c3 : W.cell? ⟨b, 3, none⟩ = some (.int .u64 q.d)
  f0 : W.frozen? ⟨b, 0, none⟩ = false
  f1 : W.frozen? ⟨b, 1, none⟩ = false
  f2 : W.frozen? ⟨b, 2, none⟩ = false
  f3 : W.frozen? ⟨b, 3, none⟩ = false

theorem HoldsQ.new (w : World) (q : Q) (t : TypeId) : HoldsQ (w.alloc (.cells #[.int .u64 q.a, .int .u64 q.b, .int .u64 q.c, .int .u64 q.d] t)) w.heap.size q :=
  ⟨by simp, by simp, by simp, by simp, World.frozen?_alloc_at _ _ _ _ rfl, World.frozen?_alloc_at _ _ _ _ rfl, World.frozen?_alloc_at _ _ _ _ rfl, World.frozen?_alloc_at _ _ _ _ rfl⟩
theorem HoldsQ.below {W W' : World} {b B : Nat} {q : Q} (h : HoldsQ W b q) (hb : Below B W W') (hB : b < B) : HoldsQ W' b q :=
  ⟨by rw [hb.cell (p := ⟨b, 0, none⟩) hB]; exact h.c0, by rw [hb.cell (p := ⟨b, 1, none⟩) hB]; exact h.c1, by rw [hb.cell (p := ⟨b, 2, none⟩) hB]; exact h.c2, by rw [hb.cell (p := ⟨b, 3, none⟩) hB]; exact h.c3,
    by rw [hb.frozen (p := ⟨b, 0, none⟩) hB]; exact h.f0, by rw [hb.frozen (p := ⟨b, 1, none⟩) hB]; exact h.f1, by rw [hb.frozen (p := ⟨b, 2, none⟩) hB]; exact h.f2, by rw [hb.frozen (p := ⟨b, 3, none⟩) hB]; exact h.f3⟩
/-- The four cells stored one behind the other. -/
def putQ (W : World) (b : Nat) (q : Q) : World := (((W.setCell ⟨b, 0, none⟩ (.int .u64 q.a)).setCell ⟨b, 1, none⟩ (.int .u64 q.b)).setCell ⟨b, 2, none⟩ (.int .u64 q.c)).setCell ⟨b, 3, none⟩ (.int .u64 q.d)
theorem HoldsQ.put {W : World} {b : Nat} {q : Q} (h : HoldsQ W b q) (q' : Q) : HoldsQ (putQ W b q') b q' := by
  obtain ⟨h0, h1, h2, h3, f0, f1, f2, f3⟩ := h
  refine ⟨?_, ?_, ?_, ?_, ?_, ?_, ?_, ?_⟩
  all_goals simp [putQ, World.cell?_setCell_other, World.cell?_setCell_same', h0, h1, h2, h3, f0, f1, f2, f3]
theorem HoldsQ.putOther {W : World} {b d : Nat} {q : Q} (h : HoldsQ W d q) (hne : d ≠ b) (q' : Q) : HoldsQ (putQ W b q') d q := by
  obtain ⟨h0, h1, h2, h3, f0, f1, f2, f3⟩ := h
  have hne' : b ≠ d := fun e => hne e.symm
  refine ⟨?_, ?_, ?_, ?_, ?_, ?_, ?_, ?_⟩
  all_goals simp [putQ, World.cell?_setCell_other, h0, h1, h2, h3, f0, f1, f2, f3]
theorem putQ_below {W : World} {B b : Nat} (hB : B ≤ b) (q : Q) : Below B W (putQ W b q) :=
  ((((Below.refl _ _).setCell hB _).setCell hB _).setCell hB _).setCell hB _
theorem putQ_since {W : World} {B b : Nat} (hB : b < B) (q : Q) : Since B W (putQ W b q) :=
  ((((Since.refl _ _).setCell hB _).setCell hB _).setCell hB _).setCell hB _

theorem putQ_heap {W : World} {b k : Nat} (h : k ≠ b) (q : Q) : (putQ W b q).heap[k]? = W.heap[k]? := by
  unfold putQ
  rw [Below.heap_setCell _ _ _ _ h, Below.heap_setCell _ _ _ _ h, Below.heap_setCell _ _ _ _ h, Below.heap_setCell _ _ _ _ h]
theorem wrap_add (a x : Nat) : IntKind.u64.wrap ((a : Int) + (x : Int)) = (((a + x) % 18446744073709551616 : Nat) : Int) := by
  rw [IntKind.wrap_u64]; omega

set_option maxHeartbeats 1000000 in
theorem growf_any (q : Q) (s : ByteArray) (w : World) (hq : q.Ok) (hs : s.size ≤ 1099511627776) :
    Calls Tryz.prog 40 #[.agg #[.int .u64 q.a, .int .u64 q.b, .int .u64 q.c, .int .u64 q.d], .string s] w fun e w' =>
      e = .returned (.agg #[.int .u64 (sumQ q (wordsB s)).a, .int .u64 (sumQ q (wordsB s)).b, .int .u64 (sumQ q (wordsB s)).c, .int .u64 (sumQ q (wordsB s)).d]) ∧ Below w.heap.size w w' := by
  refine (callsIn_wide (n := 5)).1 ?_
  refine callsIn_of_wp_marks Tryz.func40 rfl trivial ?_ rfl
  simp only [Tryz.ntmps40, List.size_toArray, List.length_cons, List.length_nil, Nat.reduceAdd, Nat.reduceSub, Array.replicate_succ, Array.replicate_zero, List.push_toArray, List.append_toArray, List.nil_append, List.cons_append]
  gi_wp2_with fail
  refine ⟨trivial, ?_⟩
  refine (callsIn_wide.2 (words_any s _)).mono ?_
  rintro e w1 ⟨rfl, rfl⟩
  gi_wp2_with fail
  have hB0 : Below w.heap.size w (((w.alloc (.cells #[.int .u64 q.a, .int .u64 q.b, .int .u64 q.c, .int .u64 q.d] 29)).alloc (.cells #[.int .u64 0, .int .u64 0, .int .u64 0, .int .u64 0] 29)).alloc (.cells #[.string s] 9)) :=
    (((Below.refl _ w).alloc (Nat.le_refl _) _).alloc (by simp) _).alloc (by simp; omega) _
  have hs0 := (((w.alloc (.cells #[.int .u64 q.a, .int .u64 q.b, .int .u64 q.c, .int .u64 q.d] 29)).alloc (.cells #[.int .u64 0, .int .u64 0, .int .u64 0, .int .u64 0] 29))).size_alloc (.cells #[.string s] 9)
  have hx0 : HoldsQ (((w.alloc (.cells #[.int .u64 q.a, .int .u64 q.b, .int .u64 q.c, .int .u64 q.d] 29)).alloc (.cells #[.int .u64 0, .int .u64 0, .int .u64 0, .int .u64 0] 29)).alloc (.cells #[.string s] 9)) w.heap.size q :=
    (HoldsQ.new w q 29).below (B := w.heap.size + 1) (((Below.refl _ _).alloc (by simp) _).alloc (by simp) _) (by omega)
  have hr0 : HoldsQ (((w.alloc (.cells #[.int .u64 q.a, .int .u64 q.b, .int .u64 q.c, .int .u64 q.d] 29)).alloc (.cells #[.int .u64 0, .int .u64 0, .int .u64 0, .int .u64 0] 29)).alloc (.cells #[.string s] 9)) (w.heap.size + 1) zeroQ := by
    have := (HoldsQ.new (w.alloc (.cells #[.int .u64 q.a, .int .u64 q.b, .int .u64 q.c, .int .u64 q.d] 29)) zeroQ 29)
    rw [World.size_alloc] at this
    exact this.below (B := w.heap.size + 2) ((Below.refl _ _).alloc (by simp) _) (by omega)
  have hc0 : (((w.alloc (.cells #[.int .u64 q.a, .int .u64 q.b, .int .u64 q.c, .int .u64 q.d] 29)).alloc (.cells #[.int .u64 0, .int .u64 0, .int .u64 0, .int .u64 0] 29)).alloc (.cells #[.string s] 9)).cell? ⟨w.heap.size + 1 + 1, 0, none⟩ = some (.string s) := by
    rw [show w.heap.size + 1 + 1 = ((w.alloc (.cells #[.int .u64 q.a, .int .u64 q.b, .int .u64 q.c, .int .u64 q.d] 29)).alloc (.cells #[.int .u64 0, .int .u64 0, .int .u64 0, .int .u64 0] 29)).heap.size by simp, World.cell?_alloc_new]
    rfl
  generalize (((w.alloc (.cells #[.int .u64 q.a, .int .u64 q.b, .int .u64 q.c, .int .u64 q.d] 29)).alloc (.cells #[.int .u64 0, .int .u64 0, .int .u64 0, .int .u64 0] 29)).alloc (.cells #[.string s] 9)) = W0 at hB0 hs0 hx0 hr0 hc0
  simp only [World.size_alloc] at hs0
  refine wpIn_range_hands rfl (by omega) (gf := 99) (lb := #[.pointer (some ⟨w.heap.size + 1 + 1, 0, none⟩)]) rfl trivial (enters_of Tryz.func99 (by kernel_rfl) rfl)
    (words1_hands _ (by omega) (w.heap.size + 1 + 1) s W0 hc0 (by omega) hs) (Below.refl _ _) rfl
    (fun k W => (HoldsQ W w.heap.size (sumQ q ((wordsB s).take k)) ∧ HoldsQ W (w.heap.size + 1) zeroQ) ∧ Below w.heap.size w W)
    (fun _ _ _ => False)
    (fun k X Y h hb => ⟨⟨h.1.1.below hb (by omega), h.1.2.below hb (by omega)⟩, h.2.trans (hb.mono (by omega))⟩)
    (fun _ _ _ _ h _ => h)
    ⟨⟨hx0, hr0⟩, hB0⟩
    (fun x => { tmps := #[.agg #[.int .u64 q.a, .int .u64 q.b, .int .u64 q.c, .int .u64 q.d], .string s, .pointer (some ⟨w.heap.size, 0, none⟩), undef, .pointer (some ⟨w.heap.size + 1, 0, none⟩), .int .u64 x, .string s,
      .func (.func 99) #[] #[.pointer (some ⟨w.heap.size + 1 + 1, 0, none⟩)], .int .u64 x, undef, undef, undef, undef, undef, undef, undef, undef, undef, undef, undef, undef, undef, undef, undef, undef, undef, undef, undef, undef, undef, undef, undef, undef], defers := [] }) ?assign ?body ?done ?stop
  case assign =>
    intro l x W K hK
    gi_wp2
    exact hK
  case body =>
    rintro l k x W hx ⟨⟨hX, hR⟩, hB⟩
    have HB := Lib.hid hB
    have HR := Lib.hid hR
    have HX := Lib.hid hX
    have hxl : x < 4294967296 := by rw [(wordsL_get hx).2]; exact wordAt_lt _ k
    have HS := Lib.hid (show sumQ q ((wordsB s).take (k + 1)) = stepQ (sumQ q ((wordsB s).take k)) x by rw [take_words hx, sumQ_snoc])
    clear hB hR hx hx0 hr0 hc0 hB0
    have hok := sumQ_ok ((wordsB s).take k) q hq
    generalize sumQ q ((wordsB s).take k) = r at hX HX HS hok
    obtain ⟨k0, k1, k2, k3, f0, f1, f2, f3⟩ := hX
    gi_wp2
    rw [wrap_add r.a x, wrap_add r.b _, wrap_add r.c _, wrap_add r.d _]
    exact ⟨putQ_since (by omega) (stepQ r x), ⟨by rw [HS.out]; exact HX.out.put (stepQ r x), HR.out.putOther (by omega) (stepQ r x)⟩, HB.out.trans (putQ_below (Nat.le_refl _) (stepQ r x))⟩
  case done =>
    rintro D W hD ⟨⟨hX, hR⟩, hB⟩ hK
    rw [List.take_of_length_le (Nat.le_refl _)] at hX
    have HR := Lib.hid hR
    obtain ⟨k0, k1, k2, k3, f0, f1, f2, f3⟩ := hX
    obtain ⟨r0, r1, r2, r3, g0, g1, g2, g3⟩ := hR
    gi_wp2
    rw [show ((((W.setCell ⟨w.heap.size + 1, 0, none⟩ (.int .u64 (sumQ q (wordsB s)).a)).setCell ⟨w.heap.size + 1, 1, none⟩ (.int .u64 (sumQ q (wordsB s)).b)).setCell ⟨w.heap.size + 1, 2, none⟩ (.int .u64 (sumQ q (wordsB s)).c)).setCell
      ⟨w.heap.size + 1, 3, none⟩ (.int .u64 (sumQ q (wordsB s)).d)) = putQ W (w.heap.size + 1) (sumQ q (wordsB s)) from rfl]
    have hK' : (putQ W (w.heap.size + 1) (sumQ q (wordsB s))).heap[D]? = some (.deferred (some [])) := (putQ_heap (by omega) _).trans hK
    have hB' : Below w.heap.size w (putQ W (w.heap.size + 1) (sumQ q (wordsB s))) := hB.trans (putQ_below (by omega) _)
    have hH := (HR.out.put (sumQ q (wordsB s))).below (below_putObj (Below.refl D _) (Nat.le_refl D) (.deferred none)) (by omega)
    generalize putQ W (w.heap.size + 1) (sumQ q (wordsB s)) = W9 at hK' hB' hH
    refine ⟨by simp, .inl ⟨_, _, rfl, run_takeDeferred hK', ?_⟩⟩
    refine ⟨_, ?_, rfl, below_putObj hB' (by omega) _⟩
    simp [results, Tryz.f40, go_sem, hH.c0, hH.c1, hH.c2, hH.c3]
  case stop =>
    rintro D c k W _ _ h _
    exact h.elim
end Go.Proofs.YtiffkbmcikiioaaGreat

/- Two sums compared: an array of four numbers is another one if all its numbers are the other's. -/
namespace Go.Proofs.YtiffkbmcikiioaaGreat
set_option maxRecDepth 100000
open Go.RowKit

/-- Are four numbers four others? -/
def eq4 (a b c d a' b' c' d' : Int) : Bool := a == a' && (b == b' && (c == c' && d == d'))
theorem eq4_true {a b c d a' b' c' d' : Int} (h0 : a = a') (h1 : b = b') (h2 : c = c') (h3 : d = d') : eq4 a b c d a' b' c' d' = true := by
  subst h0 h1 h2 h3; simp [eq4]
theorem eq4_false {a b c d a' b' c' d' : Int} (h : ¬ (a = a' ∧ b = b' ∧ c = c' ∧ d = d')) : eq4 a b c d a' b' c' d' = false := by
  rw [← Bool.not_eq_true]
  intro e
  apply h
  simpa [eq4] using e

theorem sum_guard : Tryz.prog.eqGuardType Tryz.prog.depth 29 = false := by kernel_rfl
theorem sum_info : ∃ i, Tryz.prog.info? 27 = some i := by
  cases h : Tryz.prog.info? 27 with
  | some i => exact ⟨i, rfl⟩
  | none =>
    have : (Tryz.prog.info? 27).isSome = true := by kernel_rfl
    rw [h] at this; cases this
theorem sum_equal (a b c d a' b' c' d' : Int) (w : World) :
    (Op.equalIn 10000 29 (.agg #[.int .u64 a, .int .u64 b, .int .u64 c, .int .u64 d]) (.agg #[.int .u64 a', .int .u64 b', .int .u64 c', .int .u64 d'])).run Tryz.prog w = .ok (eq4 a b c d a' b' c' d') w := by
  obtain ⟨i, hi⟩ := sum_info
  rw [run_equalIn_array (P := Tryz.prog) w 9999 (n := 4) (e := 27) _ _ Tryz.underlying29 hi]
  have hc : Tryz.prog.cellsOf 27 = 1 := by kernel_rfl
  rw [hc]
  simp [Op.eqItems, List.range, List.range.loop, go_sem]
  by_cases h0 : a = a' <;> by_cases h1 : b = b' <;> by_cases h2 : c = c' <;> by_cases h3 : d = d' <;> simp [eq4, h0, h1, h2, h3]
theorem sum_at0 (a b c d : Int) (w : World) : (Instr.index 29 (.agg #[.int .u64 a, .int .u64 b, .int .u64 c, .int .u64 d]) (.int .i64 0)).run Tryz.prog w = .ok (.int .u64 a) w := by kernel_rfl
theorem sum_at1 (a b c d : Int) (w : World) : (Instr.index 29 (.agg #[.int .u64 a, .int .u64 b, .int .u64 c, .int .u64 d]) (.int .i64 1)).run Tryz.prog w = .ok (.int .u64 b) w := by kernel_rfl
theorem sum_at2 (a b c d : Int) (w : World) : (Instr.index 29 (.agg #[.int .u64 a, .int .u64 b, .int .u64 c, .int .u64 d]) (.int .i64 2)).run Tryz.prog w = .ok (.int .u64 c) w := by kernel_rfl
theorem sum_at3 (a b c d : Int) (w : World) : (Instr.index 29 (.agg #[.int .u64 a, .int .u64 b, .int .u64 c, .int .u64 d]) (.int .i64 3)).run Tryz.prog w = .ok (.int .u64 d) w := by kernel_rfl
end Go.Proofs.YtiffkbmcikiioaaGreat

/- fletch.Sum, More: what they answer; the document's examples. -/
namespace Go.Proofs.YtiffkbmcikiioaaGreat
set_option maxRecDepth 100000
open Go.RowKit Go.Shelf M

theorem sum_any (s : ByteArray) (w : World) (hs : s.size ≤ 1099511627776) :
    Calls Tryz.prog 14 #[.string s] w fun e w' =>
      e = .returned (.agg #[.int .u64 (sumQ zeroQ (wordsB s)).a, .int .u64 (sumQ zeroQ (wordsB s)).b, .int .u64 (sumQ zeroQ (wordsB s)).c, .int .u64 (sumQ zeroQ (wordsB s)).d]) ∧ Below w.heap.size w w' := by
  go_enter Tryz.func14, Tryz.ntmps14
  go_wp2_with fail
  refine (growf_any zeroQ s _ zeroQ_ok hs).mono ?_
  rintro e w1 ⟨rfl, b1⟩
  generalize hr : sumQ zeroQ (wordsB s) = r
  have HX := Lib.hid hr
  clear hr
  have hR := (HoldsQ.new w zeroQ 29).below b1 (by simp)
  have hB : Below w.heap.size w w1 := ((Below.refl _ w).alloc (Nat.le_refl _) _).trans (b1.mono (by simp))
  have HR := Lib.hid hR
  obtain ⟨k0, k1, k2, k3, f0, f1, f2, f3⟩ := hR
  clear b1
  go_wp2
  have hp := HR.out.put r
  refine bodyPost_ret (v := .agg #[.int .u64 r.a, .int .u64 r.b, .int .u64 r.c, .int .u64 r.d]) ?_ rfl ⟨by rw [HX.out], hB.trans (putQ_below (Nat.le_refl _) r)⟩
  have c0 := hp.c0
  have c1 := hp.c1
  have c2 := hp.c2
  have c3 := hp.c3
  unfold putQ at c0 c1 c2 c3
  simp [results, Tryz.results14, go_sem, c0, c1, c2, c3]

theorem sum_1 (w : World) : Calls Tryz.prog 14 #[.string ⟨#[1]⟩] w fun e w' => e = .returned (.agg #[.int .u64 1, .int .u64 1, .int .u64 1, .int .u64 1]) ∧ Below w.heap.size w w' := by
  have h : sumQ zeroQ (wordsB ⟨#[1]⟩) = ⟨1, 1, 1, 1⟩ := by kernel_rfl
  have := sum_any ⟨#[1]⟩ w (by decide)
  rw [h] at this
  exact this
theorem sum_12 (w : World) : Calls Tryz.prog 14 #[.string ⟨#[1, 0, 0, 0, 2, 0, 0, 0]⟩] w fun e w' => e = .returned (.agg #[.int .u64 3, .int .u64 4, .int .u64 5, .int .u64 6]) ∧ Below w.heap.size w w' := by
  have h : sumQ zeroQ (wordsB ⟨#[1, 0, 0, 0, 2, 0, 0, 0]⟩) = ⟨3, 4, 5, 6⟩ := by kernel_rfl
  have := sum_any ⟨#[1, 0, 0, 0, 2, 0, 0, 0]⟩ w (by decide)
  rw [h] at this
  exact this
end Go.Proofs.YtiffkbmcikiioaaGreat

/- A sum that came in, opened: four numbers of 64 bits. -/
namespace Go.Proofs.YtiffkbmcikiioaaGreat
set_option maxRecDepth 100000
open Go.RowKit M Go.ChangeShapes

theorem bounds_q {n : Int} (h : (Lit.int .u64 n).wf = true) : 0 ≤ n ∧ n ≤ 18446744073709551615 := by
  simpa [Lit.wf, IntKind.min, IntKind.max, IntKind.signed, IntKind.bits] using h
theorem list_four (l : List Value) (h : l.length = 4) : ∃ a b c d, l = [a, b, c, d] := by
  match l, h with
  | [a, b, c, d], _ => exact ⟨a, b, c, d, rfl⟩
theorem open_sum {H : Type} {enc : TypeId × Value → H} {W : World} {base : Nat} {v : Value} {d : DataW H} {p : List MemPlace}
    (hok : Value.okWide Tryz.prog W .any base 29 v) (h : DataW.Trod enc Tryz.prog W 0 (fun _ => true) true 29 v d p) :
    ∃ q : Q, q.Ok ∧ v = .agg #[.int .u64 q.a, .int .u64 q.b, .int .u64 q.c, .int .u64 q.d] := by
  have hc : Tryz.prog.cellsOf 27 = 1 := by kernel_rfl
  have hc4 : Tryz.prog.cellsOf 29 = 4 := by kernel_rfl
  obtain ⟨cs, rfl, hsz, _⟩ : ∃ cs, v = .agg cs ∧ cs.size = Tryz.prog.cellsOf 29 ∧ Row.okWide Tryz.prog W .any base 29 cs := by
    simpa [Value.okWide, Tryz.underlying29] using hok
  rw [hc4] at hsz
  obtain ⟨l⟩ := cs
  obtain ⟨c0, c1, c2, c3, rfl⟩ := list_four l hsz
  obtain ⟨fuel, hf⟩ := h
  obtain ⟨y0, y1, y2, y3, m, hx, hy0, hy1, hy2, hy3⟩ := trod_array4 Tryz.underlying29 hc hf
  obtain ⟨x0, e0, _, w0⟩ := DataW.trod_int Tryz.underlying27 hy0
  obtain ⟨x1, e1, _, w1⟩ := DataW.trod_int Tryz.underlying27 hy1
  obtain ⟨x2, e2, _, w2⟩ := DataW.trod_int Tryz.underlying27 hy2
  obtain ⟨x3, e3, _, w3⟩ := DataW.trod_int Tryz.underlying27 hy3
  simp at e0 e1 e2 e3
  subst e0 e1 e2 e3
  obtain ⟨a0, a1⟩ := bounds_q w0
  obtain ⟨b0, b1⟩ := bounds_q w1
  obtain ⟨c0, c1⟩ := bounds_q w2
  obtain ⟨d0, d1⟩ := bounds_q w3
  obtain ⟨n0, rfl⟩ := Int.eq_ofNat_of_zero_le a0
  obtain ⟨n1, rfl⟩ := Int.eq_ofNat_of_zero_le b0
  obtain ⟨n2, rfl⟩ := Int.eq_ofNat_of_zero_le c0
  obtain ⟨n3, rfl⟩ := Int.eq_ofNat_of_zero_le d0
  exact ⟨⟨n0, n1, n2, n3⟩, ⟨by show n0 < _; omega, by show n1 < _; omega, by show n2 < _; omega, by show n3 < _; omega⟩, rfl⟩
end Go.Proofs.YtiffkbmcikiioaaGreat
