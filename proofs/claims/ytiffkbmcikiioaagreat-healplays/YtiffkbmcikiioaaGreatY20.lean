/-
  par.mix, par.Make: what they answer.
  polderlaw03.awake, par.Right: what they answer.
  A text of zero bytes, made.
  A slice of texts that is one's own: one of its texts read, and laid anew.
  slices.Grow, slices.Concat of two, par.Again: what they answer.
  par.Again: what it answers.
-/
import Derived.Test.YtiffkbmcikiioaaGreatY17
import Derived.StillTailTactics
import Derived.Laws.MakeOwn
import Derived.Deep.RegionWith

/- par.mix, par.Make: what they answer. -/
namespace Go.Proofs.YtiffkbmcikiioaaGreat
set_option maxRecDepth 100000
open Go.RowKit M

/-- The first k bytes made one with another text's. -/
def mixTo (p : List UInt8) (s : ByteArray) (k : Nat) : List UInt8 := List.zipWith (· ^^^ ·) (p.take k) (s.data.toList.take k) ++ p.drop k
theorem mixTo_zero (p : List UInt8) (s : ByteArray) : mixTo p s 0 = p := by simp [mixTo]
theorem mixTo_all (p : List UInt8) (s : ByteArray) (h : p.length = s.size) : mixTo p s p.length = List.zipWith (· ^^^ ·) p s.data.toList := by
  rw [mixTo, List.take_length, List.drop_length, List.append_nil, List.take_of_length_le (by rw [← sizeL]; omega)]
theorem mixTo_length (p : List UInt8) (s : ByteArray) (h : p.length = s.size) (k : Nat) : (mixTo p s k).length = p.length := by
  rw [sizeL] at h
  simp [mixTo] at h ⊢
  omega
theorem mixTo_at (p : List UInt8) (s : ByteArray) (h : p.length = s.size) (k : Nat) (hk : k < p.length) (h' : k < (mixTo p s k).length) : (mixTo p s k)[k] = p[k] := by
  have hs : s.data.toList.length = p.length := by rw [← sizeL]; exact h.symm
  simp only [mixTo]
  rw [List.getElem_append_right (by simp [hs]; omega)]
  simp only [List.length_zipWith, List.length_take, hs, List.getElem_drop]
  congr 1
  omega
theorem mixTo_next (p : List UInt8) (s : ByteArray) (h : p.length = s.size) (k : Nat) (hk : k < p.length) (hs : k < s.size) : (mixTo p s k).set k (p[k] ^^^ s[k]) = mixTo p s (k + 1) := by
  have hl : s.data.toList.length = p.length := by rw [← sizeL]; exact h.symm
  have hz : (List.zipWith (· ^^^ ·) (p.take k) (s.data.toList.take k)).length = k := by simp [hl]; omega
  unfold mixTo
  rw [List.set_append, if_neg (by omega), hz, Nat.sub_self, List.drop_eq_getElem_cons hk, List.set_cons_zero, List.take_succ_eq_append_getElem hk,
    List.take_succ_eq_append_getElem (l := s.data.toList) (by omega), List.zipWith_append (by simp [hl]), List.append_assoc]
  rfl
theorem xor_bits (a b : UInt8) : bits BinOp.xor IntKind.u8 (a.toNat : Int) (b.toNat : Int) = ((a ^^^ b).toNat : Int) := by
  rw [u8_xor_nat _ _ (UInt8.toNat_lt a) (UInt8.toNat_lt b), UInt8.toNat_xor]

set_option maxHeartbeats 1000000 in
theorem mix_any (p : List UInt8) (s : ByteArray) (g c n : Nat) (w : World) (B : Nat) (h : RowB w g p) (hB : B ≤ g) (hp : p.length = s.size) (hm : s.size ≤ maxLen) (hn : s.size = n) :
    Calls Tryz.prog 140 #[.slice (some ⟨g, 0, none⟩) n c, .string s] w fun e w' => e = .returned (.tuple #[]) ∧ RowB w' g (List.zipWith (· ^^^ ·) p s.data.toList) ∧ Below B w w' := by
  unfold maxLen at hm
  subst hn
  have HP := Lib.hid hp
  have HR := Lib.hid h
  clear h hp
  go_enter Tryz.func140, Tryz.ntmps140
  go_wp2_with fail
  go_loopw [7] (fun i wx => ∃ k : Nat, k ≤ s.size ∧ i = .int .i64 k ∧ RowB wx g (mixTo p s k) ∧ Below B w wx) (fun i _ => s.size - (intOf i).toNat)
  case atStart => exact ⟨0, Nat.zero_le _, rfl, by rw [mixTo_zero]; exact HR.out, Below.refl _ _⟩
  case round =>
    obtain ⟨k, hk, rfl, hr, hb⟩ := hrel
    by_cases hlt : k < s.size
    · have hlp : k < p.length := by rw [HP.out]; exact hlt
      have hml : k < (mixTo p s k).length := by rw [mixTo_length p s HP.out]; exact hlp
      have hck := hr.c k hml
      rw [mixTo_at p s HP.out k hlp hml] at hck
      have hfk := hr.f k hml
      have hx := xor_bits p[k] s[k]
      have hnx := RowB.set hr k hml (p[k] ^^^ s[k])
      rw [mixTo_next p s HP.out k hlp hlt] at hnx
      have HX := Lib.hid hnx
      generalize p[k] ^^^ s[k] = v at hx hnx HX
      generalize p[k] = u at hck hx
      clear hr hnx hlp hml
      have a1 : ((k : Int)).toNat = k := by omega
      go_wp2_with fail
      refine wp_region_still_tail 9 (by kernel_rfl) (by kernel_rfl) ?_
      simp only [List.take_succ_cons, List.take_zero, List.drop_succ_cons, List.drop_zero]
      repeat still_step
      refine wpStill_nil ?_
      go_wp2
      go_round
      case rel => exact ⟨k + 1, by omega, by go_num, HX.out.below (Below.refl _ _).drew HX.out.lt, (hb.setCell (p := ⟨g, k, none⟩) hB _).drew⟩
      case measure => simp [intOf]; omega
    · go_wp2
      go_end0
      obtain rfl : k = s.size := by omega
      refine ⟨rfl, ?_, hb⟩
      rw [← HP.out, mixTo_all p s HP.out] at hr
      exact hr

theorem ok_even {l : List ByteArray} (hl : 0 < l.length) : okL l = evenL l := by
  cases l with
  | nil => exact absurd hl (Nat.not_lt_zero _)
  | cons s r => simp [okL]

theorem even_cons {s0 : ByteArray} {r : List ByteArray} (he : ∀ s ∈ r, s.size = s0.size) : evenL (s0 :: r) = true := even_of (n := s0.size) fun s hs => by
  rcases List.mem_cons.1 hs with rfl | hs
  · rfl
  · exact he s hs

set_option maxHeartbeats 1000000 in
theorem make_ok (s0 : ByteArray) (r : List ByteArray) (g o c n : Nat) (w : World) (hn : (s0 :: r).length = n) (hcc : n ≤ c) (hg : g < w.heap.size) (hm : n ≤ maxLen) (hz : s0.size ≤ maxLen) (he : ∀ s ∈ r, s.size = s0.size)
    (hc : ∀ j (h : j < (s0 :: r).length), w.cell? ⟨g, o + j, none⟩ = some (.string (s0 :: r)[j])) :
    Calls Tryz.prog 124 #[.slice (some ⟨g, o, none⟩) n c] w fun e w' => e = .returned (.tuple #[.string (parB (s0 :: r)), .int .i64 0]) ∧ Below w.heap.size w w' := by
  have HT : Hid (Txt w (.slice (some ⟨g, o, none⟩) n c) (s0 :: r)) := Lib.hid (by subst hn; exact Txt.mk hcc hg hc)
  have HM : Hid ((s0 :: r).length ≤ maxLen) := Lib.hid (by rw [hn]; exact hm)
  have HE := Lib.hid he
  have HN : Hid (n = r.length + 1) := Lib.hid (by rw [← hn]; rfl)
  have hn1 : 1 ≤ n := by have := HN.out; omega
  have hn0 : ((n : Int) == 0) = false := by rw [beq_eq_false_iff_ne]; omega
  have HC := Lib.hid hc
  have HZ := Lib.hid hz
  unfold maxLen at hm
  clear he hn hc hz
  go_enter Tryz.func124, Tryz.ntmps124
  go_wp2_with fail
  refine (even_any _ _ _ HT.out HM.out true (even_cons HE.out)).mono ?_
  rintro e w1 ⟨rfl, b1⟩
  have HC1 : Hid (∀ j (h : j < (s0 :: r).length), w1.cell? ⟨g, o + j, none⟩ = some (.string (s0 :: r)[j])) := Lib.hid fun j hj => by
    rw [b1.cell (p := ⟨g, o + j, none⟩) hg]; exact HC.out j hj
  have hc0 : w1.cell? ⟨g, o, none⟩ = some (.string s0) := HC1.out 0 (by simp)
  have hcv := conv_to w1 s0
  have HR0 := Lib.hid (bytesW_row w1 s0)
  have hb0 := bytesW_below w1 s0
  have hg1 : g < w1.heap.size := Nat.lt_of_lt_of_le hg b1.size
  have hB1 : w.heap.size ≤ w1.heap.size := b1.size
  have hbb := early2 b1 hb0
  clear HC HT
  generalize hgx : grownCap w1 s0.size 0 5 = gc at hcv
  generalize hwx : bytesW w1 s0 = wx at hcv HR0 hb0 hbb
  clear hgx hwx
  by_cases hc1 : c = 1
  · obtain rfl : n = 1 := by omega
    subst hc1
    obtain rfl : r = [] := List.eq_nil_of_length_eq_zero (by have := HN.out; omega)
    have hcf := conv_from wx w1.heap.size _ HR0.out s0.size gc (sizeL s0)
    rw [show (⟨s0.data.toList.toArray⟩ : ByteArray) = s0 from by cases s0; rfl] at hcf
    go_wp2_with fail
    refine wp_loop_rounds 1 ?_
    rw [rounds_succ]
    go_wp2
    go_ret2
    exact ⟨by rw [par_single]; rfl, hbb⟩
  · go_wp2_with fail
    go_loopw [22] (fun i wr => ∃ k : Nat, k ≤ n - 1 ∧ i = .int .i64 k ∧ RowB wr w1.heap.size (parL ((s0 :: r).take (k + 1)) s0.size) ∧ Below w1.heap.size w1 wr) (fun i _ => n - 1 - (intOf i).toNat)
    case atStart =>
      refine ⟨0, Nat.zero_le _, rfl, ?_, hb0⟩
      rw [List.take_succ_cons, List.take_zero, parL_first]
      exact HR0.out
    case round =>
      obtain ⟨k, hk, rfl, hr, hb⟩ := hrel
      by_cases hlt : k < n - 1
      · have hkl : k < r.length := by have := HN.out; omega
        have hck : wr.cell? ⟨g, o + 1 + k, none⟩ = some (.string r[k]) := by
          rw [hb.cell (p := ⟨g, o + 1 + k, none⟩) hg1]
          have := HC1.out (k + 1) (by simp; omega)
          rw [show o + 1 + k = o + (k + 1) by omega]
          simpa using this
        have hsz := HE.out _ (List.getElem_mem hkl)
        have hmo := parL_more ((s0 :: r).take (k + 1)) r[k]
        rw [show (s0 :: r).take (k + 1) ++ [r[k]] = (s0 :: r).take (k + 1 + 1) by
          rw [List.take_succ_cons, List.take_succ_cons, List.cons_append, List.take_succ_eq_append_getElem hkl]] at hmo
        generalize r[k] = sk at hck hsz hmo
        have HS := Lib.hid hsz
        rw [hsz] at hmo
        have HMO := Lib.hid hmo
        have HR := Lib.hid hr
        clear hsz hmo hr
        go_wp2_with fail
        refine (mix_any _ sk w1.heap.size gc s0.size _ w1.heap.size HR.out (Nat.le_refl _) (by rw [parL_length, HS.out]) (by rw [HS.out]; exact HZ.out) HS.out).mono ?_
        rintro e w2 ⟨rfl, h2, b2⟩
        rw [HMO.out] at h2
        go_wp2
        go_round
        case rel => exact ⟨k + 1, by omega, by go_num, h2, hb.trans b2⟩
        case measure => simp [intOf]; omega
      · obtain rfl : k = n - 1 := by omega
        have hcf := conv_from wr w1.heap.size _ hr s0.size gc (by rw [parL_length])
        rw [List.take_of_length_le (by rw [List.length_cons]; have := HN.out; omega)] at hcf
        go_wp2
        go_ret2
        exact ⟨rfl, early2 b1 hb⟩
theorem make_any (l : List ByteArray) (v : Value) (w : World) (h : Txt w v l) (hm : l.length ≤ maxLen) (hz : ∀ s ∈ l, s.size ≤ maxLen) :
    Calls Tryz.prog 124 #[v] w fun e w' => e = .returned (.tuple #[.string (mkB l), .int .i64 (mkE l)]) ∧ Below w.heap.size w w' := by
  cases l with
  | nil =>
    obtain ⟨a, c, rfl⟩ := h.isNone
    obtain ⟨h1, h2⟩ := mk_no (l := []) rfl
    rw [h1, h2]
    clear h hm hz h1 h2
    go_enter Tryz.func124, Tryz.ntmps124
    go_wp2
    go_ret2
    exact ⟨rfl, Below.refl _ _⟩
  | cons s0 r =>
    have hev := ok_even (l := s0 :: r) (by simp)
    cases hb : evenL (s0 :: r) with
    | false =>
      obtain ⟨h1, h2⟩ := mk_no (hev.trans hb)
      rw [h1, h2]
      have HB := Lib.hid hb
      have HT := Lib.hid h
      have HM := Lib.hid hm
      obtain ⟨g, o, c, rfl, hcc, hg, hc⟩ := h.isSome (by simp)
      unfold maxLen at hm
      have hn1 : 1 ≤ (s0 :: r).length := by simp
      generalize hn : (s0 :: r).length = n at hn1 hm hcc HT
      clear hb h hev h1 h2 hc hz hn
      go_enter Tryz.func124, Tryz.ntmps124
      go_wp2_with fail
      refine (even_any _ _ _ HT.out HM.out false HB.out).mono ?_
      rintro e w1 ⟨rfl, b1⟩
      go_wp2
      go_ret2
      exact ⟨rfl, b1⟩
    | true =>
      obtain ⟨h1, h2⟩ := mk_ok (hev.trans hb)
      rw [h1, h2]
      obtain ⟨g, o, c, rfl, hcc, hg, hc⟩ := h.isSome (by simp)
      exact make_ok s0 r g o c _ w rfl hcc hg hm (hz s0 (List.mem_cons_self ..)) (fun s hs => even_iff.1 hb s (List.mem_cons_of_mem _ hs)) hc
end Go.Proofs.YtiffkbmcikiioaaGreat

/- polderlaw03.awake, par.Right: what they answer. -/
namespace Go.Proofs.YtiffkbmcikiioaaGreat
set_option maxRecDepth 100000
open Go.RowKit M

/-- How two texts are compared. -/
theorem eq_txt (p q : ByteArray) : (p.toList == q.toList) = decide (p = q) := by
  by_cases h : p = q
  · subst h; simp
  · have : p.toList ≠ q.toList := by
      rw [ByteArray.toList_eq, ByteArray.toList_eq]
      exact fun e => h (extL e)
    rw [decide_eq_false h]
    exact beq_eq_false_iff_ne.2 this

end Go.Proofs.YtiffkbmcikiioaaGreat

/- A text of zero bytes, made. -/
namespace Go.Proofs.YtiffkbmcikiioaaGreat
set_option maxRecDepth 100000
open Go.RowKit M

theorem info_u8 : ∃ i, Tryz.prog.info? 5 = some i ∧ i.zero = some (.int .u8 0) ∧ i.size = 1 ∧ i.bytes = 1 := info_parts (by kernel_rfl)
/-- The world behind make([]byte, n). -/
def zerosW (w : World) (n : Nat) : World := w.alloc (.cells (madeCells #[.int .u8 0] n) 5)
theorem make_zeros (w : World) (n : Nat) (hn : n ≤ 4294967296) : (Instr.makeSlice 79 (.int .i64 n) (.int .i64 n)).run Tryz.prog w = .ok (.slice (some ⟨w.heap.size, 0, none⟩) n n) (zerosW w n) := by
  obtain ⟨i, hi, hz, hs, hb⟩ := info_u8
  have := run_make (P := Tryz.prog) w 79 5 i (.int .u8 0) Tryz.underlying79 hi hz .i64 .i64 n n (by omega) (by omega) (by rw [hb]; omega) (by omega)
  rw [this, hs, Nat.mul_one]
  rfl
theorem zerosW_row (w : World) (n : Nat) : RowB (zerosW w n) w.heap.size (List.replicate n 0) := by
  have hh : (zerosW w n).heap[w.heap.size]? = some (.cells (madeCells #[.int .u8 0] n) 5) := heap_alloc_new w _
  refine ⟨fun j hj => ?_, fun j hj => ?_, by simp [zerosW]⟩
  · rw [List.length_replicate] at hj
    have : (madeCells #[Value.int .u8 0] n)[j]? = some (.int .u8 0) := by
      simp [madeCells, hj, Nat.mod_one]
    simp [World.cell?, hh, this]
  · exact World.frozen?_alloc_at _ _ _ _ rfl
theorem conv_zeros (w : World) (n : Nat) : (convert 79 9 (.slice (some ⟨w.heap.size, 0, none⟩) n n)).run Tryz.prog (zerosW w n) = .ok (.string (zeroB n)) (zerosW w n) :=
  conv_from (zerosW w n) w.heap.size _ (zerosW_row w n) n n (by simp)
theorem zerosW_below (w : World) (n : Nat) : Below w.heap.size w (zerosW w n) := (Below.refl _ w).alloc (Nat.le_refl _) _
theorem zeroB_size (n : Nat) : (zeroB n).size = n := by rw [sizeL]; simp [zeroB]
end Go.Proofs.YtiffkbmcikiioaaGreat

/- A slice of texts that is one's own: one of its texts read, and laid anew. -/
namespace Go.Proofs.YtiffkbmcikiioaaGreat
set_option maxRecDepth 100000
open Go.RowKit M

/-- An own slice that is not empty: where it lies. -/
theorem Own.at_ {w : World} {B n c : Nat} {a : Option Addr} {l : List ByteArray} (h : Own w B (.slice a n c) l) (hn : 0 < n) :
    ∃ g, a = some ⟨g, 0, none⟩ ∧ B ≤ g ∧ g < w.heap.size ∧ l.length = n ∧ n ≤ c ∧ (∀ j, j < n → w.frozen? ⟨g, j, none⟩ = false) ∧ ∀ j (hj : j < l.length), w.cell? ⟨g, j, none⟩ = some (.string l[j]) := by
  have hl := h.txt.len
  rcases h.2 with ⟨e, h0⟩ | ⟨g, cap, cur, e, hB, hg, hnc, _, hcs, _⟩
  · simp only [Value.slice.injEq] at e
    omega
  · simp only [Value.slice.injEq] at e
    obtain ⟨rfl, _, rfl⟩ := e
    refine ⟨g, rfl, hB, (Array.getElem?_eq_some_iff.1 hg).1, hl, by omega, fun j hj => ?_, fun j hj => ?_⟩
    · simp [World.frozen?, hg]
    · obtain ⟨g', o, c', e, _, _, hcell⟩ := h.txt.isSome (by omega)
      simp only [Value.slice.injEq, Option.some.injEq, Addr.mk.injEq, and_true] at e
      obtain ⟨⟨rfl, rfl⟩, _⟩ := e
      have := hcell j hj
      rwa [Nat.zero_add] at this
theorem Own.set {w : World} {B n c g : Nat} {l : List ByteArray} (h : Own w B (.slice (some ⟨g, 0, none⟩) n c) l) (k : Nat) (hk : k < n) (s : ByteArray) :
    Own (w.setCell ⟨g, k, none⟩ (.string s)) B (.slice (some ⟨g, 0, none⟩) n c) (l.set k s) := by
  have hl := h.txt.len
  rcases h.2 with ⟨e, h0⟩ | ⟨g', cap, cur, e, hB, hg, hnc, hcm, hcs, ht⟩
  · simp only [Value.slice.injEq] at e
    omega
  · simp only [Value.slice.injEq, Option.some.injEq, Addr.mk.injEq, and_true] at e
    obtain ⟨rfl, _, rfl⟩ := e
    refine ⟨by simp, .inr ⟨g, c, cur.setIfInBounds k (.string s), by simp [hl], hB, ?_, by simpa using hnc, hcm, by simpa using hcs, ?_⟩⟩
    · simp [World.setCell, Array.getElem?_modify, hg]
    · rw [List.length_set, Nat.mul_one] at *
      rw [Array.toList_setIfInBounds, List.take_set, ht, List.map_set]
/-- Stored: what lay below is as it was. -/
theorem below_store {w w' : World} {B g k : Nat} (h : Below B w w') (hB : B ≤ g) (v : Value) : Below B w (w'.setCell ⟨g, k, none⟩ v) := h.setCell (p := ⟨g, k, none⟩) hB v
end Go.Proofs.YtiffkbmcikiioaaGreat

/- slices.Grow, slices.Concat of two, par.Again: what they answer. -/
namespace Go.Proofs.YtiffkbmcikiioaaGreat
set_option maxRecDepth 100000
open Go.RowKit M

set_option maxHeartbeats 1000000 in
theorem grow_any (n : Nat) (w : World) (hn : 0 < n) (hn2 : n ≤ 4294967296) :
    Calls Tryz.prog 158 #[.slice none 0 0, .int .i64 n] w fun e w' =>
      ∃ c, e = .returned (.slice (some ⟨w.heap.size, 0, none⟩) 0 c) ∧ Own w' w.heap.size (.slice (some ⟨w.heap.size, 0, none⟩) 0 c) [] ∧ Below w.heap.size w w' := by
  obtain ⟨i, hi, hz, hs, hb⟩ := info_str
  have hr := fun ty => Lib.run_append_nil_zeros (P := Tryz.prog) w 60 3 ty 9 i (.string ⟨#[]⟩) .i64 .i64 Tryz.underlying60 Tryz.underlying3 hi hz n hn (by omega) (by omega) (by rw [hb]; omega)
  have hge := grownCap_ge w n 0 9
  have hle := grownCap_le_maxLen w n 0 9 (by unfold maxLen; omega)
  have hO : Own (w.drew.alloc (.cells (Builtin.zeroCells (Value.string ⟨#[]⟩).cells n ++ Builtin.zeroCells (Value.string ⟨#[]⟩).cells (grownCap w n 0 9 - n)) 9)) w.heap.size (.slice (some ⟨w.heap.size, 0, none⟩) 0 (grownCap w n 0 9)) [] := by
    refine World.ownsRow_made (e := 9) (size := 1) (base := w.heap.size) w.drew _ (grownCap w n 0 9) (Nat.le_refl _) hle ?_
    simp only [Array.size_append, size_zeroCells]
    have : (Value.string ⟨#[]⟩).cells.size = 1 := rfl
    rw [this]
    omega
  have hB : Below w.heap.size w (w.drew.alloc (.cells (Builtin.zeroCells (Value.string ⟨#[]⟩).cells n ++ Builtin.zeroCells (Value.string ⟨#[]⟩).cells (grownCap w n 0 9 - n)) 9)) := (Below.refl _ w).drew.alloc (Nat.le_refl _) _
  generalize hW : w.drew.alloc (.cells (Builtin.zeroCells (Value.string ⟨#[]⟩).cells n ++ Builtin.zeroCells (Value.string ⟨#[]⟩).cells (grownCap w n 0 9 - n)) 9) = W at hr hO hB
  generalize hg : grownCap w n 0 9 = gc at hr hO hge hle
  have HR := Lib.hid hr
  unfold maxLen at hle
  clear hr hW hg hi hz hs hb
  go_enter Tryz.func158, Tryz.ntmps158
  go_wp2_with (at_builtin; refine Lib.wpList_append_run _ rfl (.tmp 20) (.tmp 21) _ _ rfl _ _ rfl rfl _ _ (HR.out _) ?_)
  go_ret
  exact ⟨gc, rfl, hO, hB⟩

set_option maxHeartbeats 2000000 in
theorem concat_any (l1 l2 : List ByteArray) (a1 a2 : Option Addr) (n1 c1 n2 c2 D : Nat) (w : World) (h1 : Txt w (.slice a1 n1 c1) l1) (h2 : Txt w (.slice a2 n2 c2) l2) (hD : D < w.heap.size)
    (hd1 : w.cell? ⟨D, 0, none⟩ = some (.slice a1 n1 c1)) (hd2 : w.cell? ⟨D, 1, none⟩ = some (.slice a2 n2 c2)) (hn : 0 < n1 + n2) (hn2 : n1 + n2 ≤ 4294967296) :
    Calls Tryz.prog 152 #[.slice (some ⟨D, 0, none⟩) 2 2] w fun e w' =>
      ∃ a c, e = .returned (.slice a (n1 + n2) c) ∧ Txt w' (.slice a (n1 + n2) c) (l1 ++ l2) ∧ Below w.heap.size w w' := by
  have HL1 := Lib.hid h1.len
  have HL2 := Lib.hid h2.len
  have H1 := Lib.hid h1
  have H2 := Lib.hid h2
  clear h1 h2
  go_enter Tryz.func152, Tryz.ntmps152
  go_wp2_with fail
  refine wp_loop_rounds 3 ?_
  rw [rounds_succ]
  go_wp2_with fail
  rw [rounds_succ]
  go_wp2_with fail
  rw [rounds_succ]
  go_wp2_with fail
  have hg := grow_any (n1 + n2) w hn hn2
  rw [show ((n1 + n2 : Nat) : Int) = (n1 : Int) + (n2 : Int) by omega] at hg
  refine hg.mono ?_
  clear hg
  rintro e w1 ⟨c, rfl, hO1, b1⟩
  have hB1 : w.heap.size ≤ w1.heap.size := b1.size
  have hd1' : w1.cell? ⟨D, 0, none⟩ = some (.slice a1 n1 c1) := by rw [b1.cell (p := ⟨D, 0, none⟩) hD]; exact hd1
  have hd2' : w1.cell? ⟨D, 1, none⟩ = some (.slice a2 n2 c2) := by rw [b1.cell (p := ⟨D, 1, none⟩) hD]; exact hd2
  have hT1 := H1.out.below b1
  clear hd1 hd2
  go_wp2_with fail
  refine wp_loop_rounds 3 ?_
  rw [rounds_succ]
  go_wp2_with (at_builtin; refine wpList_append_txt _ rfl (.tmp 31) (.tmp 32) rfl w.heap.size _ _ [] l1 l1 n1 rfl rfl rfl HL1.out hO1 hT1 hB1 (by omega) ?_; intro a3 c3 w3 hO3 b3 s3)
  have b03 := b1.trans b3
  have hd3 : w3.cell? ⟨D, 1, none⟩ = some (.slice a2 n2 c2) := by rw [b3.cell (p := ⟨D, 1, none⟩) hD]; exact hd2'
  have hT3 := H2.out.below b03
  clear hd1' hd2' hT1 hO1
  rw [rounds_succ]
  go_wp2_with (at_builtin; refine wpList_append_txt _ rfl (.tmp 31) (.tmp 32) rfl w.heap.size _ _ l1 l2 (l1 ++ l2) (n1 + n2) rfl rfl rfl (by simp [HL1.out, HL2.out]) hO3 hT3 b03.size (by omega) ?_; intro a4 c4 w4 hO4 b4 s4)
  rw [rounds_succ]
  go_wp2
  go_ret
  exact ⟨a4, c4, rfl, hO4.txt, b03.trans b4⟩

/-- A slice's first texts, and its last. -/
theorem txt_take {w : World} {g o c k : Nat} {l : List ByteArray} (hk : k ≤ l.length) (hc : k ≤ c) (hg : g < w.heap.size) (h : ∀ j (h : j < l.length), w.cell? ⟨g, o + j, none⟩ = some (.string l[j])) :
    Txt w (.slice (some ⟨g, o, none⟩) k c) (l.take k) := by
  have hl : (l.take k).length = k := by rw [List.length_take]; omega
  refine ⟨_, c, by rw [hl], by omega, fun j hj => ⟨g, o, rfl, hg, ?_⟩⟩
  rw [hl] at hj
  rw [h j (by omega), List.getElem_take]
theorem txt_drop {w : World} {g o c k n : Nat} {l : List ByteArray} (hn : l.length = n) (hc : n ≤ c) (hg : g < w.heap.size) (h : ∀ j (h : j < l.length), w.cell? ⟨g, o + j, none⟩ = some (.string l[j])) :
    Txt w (.slice (some ⟨g, o + k, none⟩) (n - k) (c - k)) (l.drop k) := by
  have hl : (l.drop k).length = n - k := by rw [List.length_drop]; omega
  refine ⟨_, c - k, by rw [hl], by omega, fun j hj => ⟨g, o + k, rfl, hg, ?_⟩⟩
  rw [hl] at hj
  rw [Nat.add_assoc, h (k + j) (by omega), List.getElem_drop]
theorem txt_empty (w : World) (a : Option Addr) (c : Nat) : Txt w (.slice a 0 c) [] := ⟨a, c, rfl, Nat.zero_le _, fun _ h => absurd h (Nat.not_lt_zero _)⟩
theorem mem_erase {α : Type} {l : List α} {k : Nat} {s : α} (h : s ∈ l.eraseIdx k) : s ∈ l := List.mem_of_mem_eraseIdx h

/-- A place that is none, or fewer than two. -/
theorem again_no (a : Option Addr) (n c : Nat) (at_ : Int) (w : World) (h : n < 2 ∨ at_ < 0 ∨ (n : Int) ≤ at_) :
    Calls Tryz.prog 144 #[.slice a n c, .int .i64 at_] w fun e w' => e = .returned (.tuple #[.string ⟨#[]⟩, .int .i64 1]) ∧ w = w' := by
  by_cases h1 : n < 2
  · clear h
    go_enter Tryz.func144, Tryz.ntmps144
    go_wp2
    go_ret2
    exact ⟨rfl, rfl⟩
  · by_cases h2 : at_ < 0
    · clear h
      go_enter Tryz.func144, Tryz.ntmps144
      go_wp2
      go_ret2
      exact ⟨rfl, rfl⟩
    · have h3 : (n : Int) ≤ at_ := by omega
      clear h
      go_enter Tryz.func144, Tryz.ntmps144
      go_wp2
      go_ret2
      exact ⟨rfl, rfl⟩
end Go.Proofs.YtiffkbmcikiioaaGreat

/- par.Again: what it answers. -/
namespace Go.Proofs.YtiffkbmcikiioaaGreat
set_option maxRecDepth 100000
open Go.RowKit M

/-- The texts but one, put together: the one is the last, and no room lies behind it. -/
theorem cat_last (l : List ByteArray) (g o c n k : Nat) (w : World) (hl : l.length = n) (hcc : n ≤ c) (hg : g < w.heap.size) (hc : ∀ j (h : j < l.length), w.cell? ⟨g, o + j, none⟩ = some (.string l[j])) (hk : k + 1 = c) (hkn : k < n) (hn : 2 ≤ n) (hm : n ≤ 4294967295) :
    Calls Tryz.prog 152 #[.slice (some ⟨w.heap.size, 0, none⟩) 2 2] (w.alloc (.cells #[.slice (some ⟨g, o, none⟩) k c, .slice (some ⟨g, o, none⟩) 0 0] 60)).drew fun e w' =>
      ∃ a c', e = .returned (.slice a (k + 0) c') ∧ Txt w' (.slice a (k + 0) c') (l.eraseIdx k) ∧ Below w.heap.size w w' := by
  have HD : l.drop (k + 1) = [] := List.drop_eq_nil_of_le (by omega)
  have b1 : Below w.heap.size w (w.alloc (.cells #[.slice (some ⟨g, o, none⟩) k c, .slice (some ⟨g, o, none⟩) 0 0] 60)).drew := ((Below.refl _ w).alloc (Nat.le_refl _) _).drew
  have hT1 := txt_take (k := k) (c := c) (l := l) (by omega) (by omega) (Nat.lt_of_lt_of_le hg b1.size) fun j hj => by rw [b1.cell (p := ⟨g, o + j, none⟩) hg]; exact hc j hj
  have hcon := concat_any (l.take k) [] (some ⟨g, o, none⟩) (some ⟨g, o, none⟩) k c 0 0 w.heap.size _ hT1 (txt_empty _ _ _) (by simp) (by simp) (by simp) (by omega) (by omega)
  rw [← HD, ← List.eraseIdx_eq_take_drop_succ] at hcon
  exact hcon.mono fun e w' ⟨a, c', h1, h2, h3⟩ => ⟨a, c', h1, h2, early2 b1 h3⟩
/-- The same, the one being any other. -/
theorem cat_mid (l : List ByteArray) (g o c n k : Nat) (w : World) (hl : l.length = n) (hcc : n ≤ c) (hg : g < w.heap.size) (hc : ∀ j (h : j < l.length), w.cell? ⟨g, o + j, none⟩ = some (.string l[j])) (hkn : k < n) (hn : 2 ≤ n) (hm : n ≤ 4294967295) :
    Calls Tryz.prog 152 #[.slice (some ⟨w.heap.size, 0, none⟩) 2 2] (w.alloc (.cells #[.slice (some ⟨g, o, none⟩) k c, .slice (some ⟨g, o + (k + 1), none⟩) (n - (k + 1)) (c - (k + 1))] 60)).drew fun e w' =>
      ∃ a c', e = .returned (.slice a (k + (n - (k + 1))) c') ∧ Txt w' (.slice a (k + (n - (k + 1))) c') (l.eraseIdx k) ∧ Below w.heap.size w w' := by
  have b1 : Below w.heap.size w (w.alloc (.cells #[.slice (some ⟨g, o, none⟩) k c, .slice (some ⟨g, o + (k + 1), none⟩) (n - (k + 1)) (c - (k + 1))] 60)).drew := ((Below.refl _ w).alloc (Nat.le_refl _) _).drew
  have hgW := Nat.lt_of_lt_of_le hg b1.size
  have hcW : ∀ j (h : j < l.length), (w.alloc (.cells #[.slice (some ⟨g, o, none⟩) k c, .slice (some ⟨g, o + (k + 1), none⟩) (n - (k + 1)) (c - (k + 1))] 60)).drew.cell? ⟨g, o + j, none⟩ = some (.string l[j]) :=
    fun j hj => by rw [b1.cell (p := ⟨g, o + j, none⟩) hg]; exact hc j hj
  have hcon := concat_any (l.take k) (l.drop (k + 1)) (some ⟨g, o, none⟩) (some ⟨g, o + (k + 1), none⟩) k c (n - (k + 1)) (c - (k + 1)) w.heap.size _ (txt_take (by omega) (by omega) hgW hcW) (txt_drop hl hcc hgW hcW)
    (by simp) (by simp) (by simp) (by omega) (by omega)
  rw [← List.eraseIdx_eq_take_drop_succ] at hcon
  exact hcon.mono fun e w' ⟨a, c', h1, h2, h3⟩ => ⟨a, c', h1, h2, early2 b1 h3⟩

set_option maxHeartbeats 4000000 in
theorem again_any (l : List ByteArray) (a : Option Addr) (n c : Nat) (at_ : Int) (w : World) (h : Txt w (.slice a n c) l) (hm : n ≤ 4294967295) (hz : ∀ s ∈ l, s.size ≤ maxLen) (k : Nat) (hk : at_ = k) (hkn : k < n) (hn : 2 ≤ n) :
    Calls Tryz.prog 144 #[.slice a n c, .int .i64 at_] w fun e w' => e = .returned (.tuple #[.string (mkB (l.eraseIdx k)), .int .i64 (mkE (l.eraseIdx k))]) ∧ Below w.heap.size w w' := by
  subst hk
  have HL := Lib.hid h.len
  obtain ⟨g, o, c', e, hcc, hg, hcell⟩ := h.isSome (by rw [HL.out]; omega)
  simp only [Value.slice.injEq] at e
  obtain ⟨rfl, -, rfl⟩ := e
  rw [HL.out] at hcc
  have HZ := Lib.hid hz
  have HC := Lib.hid hcell
  clear hcell hz h
  have hd1 : decide ((n : Int) < 2) = false := by rw [decide_eq_false_iff_not]; omega
  have hd2 : decide ((k : Int) < 0) = false := by rw [decide_eq_false_iff_not]; omega
  have hd3 : decide ((n : Int) ≤ (k : Int)) = false := by rw [decide_eq_false_iff_not]; omega
  go_enter Tryz.func144, Tryz.ntmps144
  go_wp2_with fail
  by_cases hc1 : k + 1 = c
  · subst hc1
    obtain rfl : n = k + 1 := by omega
    have q0 : IntKind.i64.wrap ((k : Int) + 1) = (k : Int) + 1 := by rw [IntKind.wrap_i64]; omega
    have q3 : ((k : Int) + 1).toNat = k + 1 := by omega
    have q7 : 0 ≤ (k : Int) + 1 := by omega
    have q6 : (k : Int) + 1 ≤ ((k + 1 : Nat) : Int) := by omega
    go_region_with (first
      | (go_at_call 152; refine (cat_last l g o (k + 1) (k + 1) k w HL.out hcc hg HC.out rfl hkn hn hm).mono ?_; rintro e w2 ⟨a2, c2, rfl, hT2, b2⟩)
      | (go_at_call 124; refine (make_any (l.eraseIdx k) _ _ hT2 (by rw [List.length_eraseIdx_of_lt (by rw [HL.out]; exact hkn), HL.out]; unfold maxLen; omega) (fun s hs => HZ.out s (mem_erase hs))).mono ?_; rintro e w3 ⟨rfl, b3⟩))
    go_wp2
    go_ret2
    exact ⟨rfl, early2 b2 b3⟩
  · have q0 : IntKind.i64.wrap ((k : Int) + 1) = (k : Int) + 1 := by rw [IntKind.wrap_i64]; omega
    have q3 : ((k : Int) + 1).toNat = k + 1 := by omega
    have q4 : ¬ c = k + 1 := fun e => hc1 e.symm
    have q5 : k ≤ c := by omega
    have q6 : (k : Int) + 1 ≤ (n : Int) := by omega
    have q7 : 0 ≤ (k : Int) + 1 := by omega
    go_region_with (first
      | (go_at_call 152; refine (cat_mid l g o c n k w HL.out hcc hg HC.out hkn hn hm).mono ?_; rintro e w2 ⟨a2, c2, rfl, hT2, b2⟩)
      | (go_at_call 124; refine (make_any (l.eraseIdx k) _ _ hT2 (by rw [List.length_eraseIdx_of_lt (by rw [HL.out]; exact hkn), HL.out]; unfold maxLen; omega) (fun s hs => HZ.out s (mem_erase hs))).mono ?_; rintro e w3 ⟨rfl, b3⟩))
    go_wp2
    go_ret2
    exact ⟨rfl, early2 b2 b3⟩
end Go.Proofs.YtiffkbmcikiioaaGreat
