/-
  The document's answer on what bytes are read as (polderref09.Read).
-/
import Derived.Test.YthpifplflhhkiaaQm
import Derived.Test.YthpifplflhhkiaaCm
import Derived.Test.YthpifplflhhkiaaRef
import Derived.Test.YthpifplflhhkiaaCx
namespace Go.Proofs.Ythpifplflhhkiaa
set_option maxRecDepth 100000
open Go.RowKit M

/-- The first k numbers of a text. -/
def numsS (s : ByteArray) (k : Nat) : List Int := (List.range k).map fun i => (numS s i : Int)
theorem numsS_succ (s : ByteArray) (k : Nat) : numsS s (k + 1) = numsS s k ++ [(numS s k : Int)] := by simp [numsS, List.range_succ]
theorem numsS_len (s : ByteArray) (k : Nat) : (numsS s k).length = k := by simp [numsS]
theorem numsS_get (s : ByteArray) (k i : Nat) (h : i < (numsS s k).length) : (numsS s k)[i] = (numS s i : Int) := by simp [numsS]
/-- The bytes of s from i to j. -/
def cutB (s : ByteArray) (i j : Nat) : ByteArray := s.extract i j
theorem cutB_list (s : ByteArray) (i j : Nat) : (cutB s i j).data.toList = (s.data.toList.drop i).take (j - i) := by
  simp [cutB, ByteArray.data_extract]
theorem cutB_size (s : ByteArray) (i j : Nat) : (cutB s i j).size ≤ j - i := by
  rw [size_list, cutB_list]; exact List.length_take_le _ _
theorem num4 (s : ByteArray) (k : Nat) (w : World) : Calls Try.prog 29 #[.string (s.extract (4 * k) (4 * k + 4))] w fun e w' => e = .returned (.int .u64 (numS s k : Nat)) ∧ w = w' := by
  have e : numS s k = numL (cutB s (4 * k) (4 * k + 4)).data.toList := by rw [cutB_list, numS, show 4 * k + 4 - 4 * k = 4 by omega]
  rw [e]
  exact refNumber_any (cutB s (4 * k) (4 * k + 4)) w (by have := cutB_size s (4 * k) (4 * k + 4); omega)
theorem num8 (s : ByteArray) (i j : Nat) (h : j = i + 8) (x : Nat) (hx : numL ((s.data.toList.drop i).take 8) = x) (w : World) : Calls Try.prog 29 #[.string (s.extract i j)] w fun e w' => e = .returned (.int .u64 (x : Nat)) ∧ w = w' := by
  subst h
  have e : x = numL (cutB s i (i + 8)).data.toList := by rw [← hx, cutB_list, show i + 8 - i = 8 by omega]
  rw [e]
  exact refNumber_any (cutB s i (i + 8)) w (by have := cutB_size s i (i + 8); omega)
theorem Box.under {w w' : World} {b B : Nat} {p : Ptr} (h : Box w b p) (k : Below B w w') (hB : b < B) : Box w' b p := by
  have e : ∀ j, w'.cell? ⟨b, j, none⟩ = w.cell? ⟨b, j, none⟩ := fun j => k.cell (p := ⟨b, j, none⟩) hB
  exact ⟨by rw [e]; exact h.c0, by rw [e]; exact h.c1, by rw [e]; exact h.c2, by rw [e]; exact h.c3, by rw [e]; exact h.c4, by rw [e]; exact h.c5, by rw [e]; exact h.c6, by rw [e]; exact h.c7,
    by rw [e]; exact h.c8, by rw [e]; exact h.c9, by rw [e]; exact h.c10, by rw [e]; exact h.c11, Nat.lt_of_lt_of_le h.lt k.size⟩
theorem Free.under {w w' : World} {b B : Nat} (h : Free w b) (k : Below B w w') (hB : b < B) : Free w' b := fun j => by
  rw [k.frozen (p := ⟨b, j, none⟩) hB]; exact h j

/-- What stands while the numbers are read. -/
structure ER (w0 : World) (n : Nat) (v : Value) (zs : List Int) (w : World) : Prop where
  own : OwnI (n + 1) w v zs
  res : Box w n noP
  free : Free w n
  below : Below n w0 w

/-- A pointer under way in block b, the result's cell n. -/
structure FR (w0 : World) (n b : Nat) (r : Ptr) (W : World) : Prop where
  box : Box W b r
  free : Free W b
  res : Box W n noP
  rfree : Free W n
  below : Below n w0 W
  lt : n < b
theorem FR.seta {w0 W : World} {n b : Nat} {r : Ptr} (h : FR w0 n b r W) (x : Nat) : FR w0 n b ⟨r.ag, r.aa, r.bg, r.ba, r.two, r.sz, r.lv, r.bi, ⟨x, r.q.b, r.q.c, r.q.d⟩⟩ (W.setCell ⟨b, 8, none⟩ (.int .u64 x)) := by
  obtain ⟨⟨c0, c1, c2, c3, c4, c5, c6, c7, c8, c9, c10, c11, hlt⟩, hf, hr, hrf, hb, hl⟩ := h
  have hbw : Below b W (W.setCell ⟨b, 8, none⟩ (.int .u64 x)) := (Below.refl _ _).setCell (p := ⟨b, 8, none⟩) (Nat.le_refl _) _
  refine ⟨⟨?_, ?_, ?_, ?_, ?_, ?_, ?_, ?_, ?_, ?_, ?_, ?_, by simpa [World.setCell] using hlt⟩, fun j => by rw [World.frozen?_setCell]; exact hf j, hr.under hbw hl, hrf.under hbw hl, hb.trans (hbw.mono (by omega)), hl⟩
  all_goals simp [World.cell?_setCell_other, World.cell?_setCell_same', c0, c1, c2, c3, c4, c5, c6, c7, c8, c9, c10, c11]
theorem FR.setb {w0 W : World} {n b : Nat} {r : Ptr} (h : FR w0 n b r W) (x : Nat) : FR w0 n b ⟨r.ag, r.aa, r.bg, r.ba, r.two, r.sz, r.lv, r.bi, ⟨r.q.a, x, r.q.c, r.q.d⟩⟩ (W.setCell ⟨b, 9, none⟩ (.int .u64 x)) := by
  obtain ⟨⟨c0, c1, c2, c3, c4, c5, c6, c7, c8, c9, c10, c11, hlt⟩, hf, hr, hrf, hb, hl⟩ := h
  have hbw : Below b W (W.setCell ⟨b, 9, none⟩ (.int .u64 x)) := (Below.refl _ _).setCell (p := ⟨b, 9, none⟩) (Nat.le_refl _) _
  refine ⟨⟨?_, ?_, ?_, ?_, ?_, ?_, ?_, ?_, ?_, ?_, ?_, ?_, by simpa [World.setCell] using hlt⟩, fun j => by rw [World.frozen?_setCell]; exact hf j, hr.under hbw hl, hrf.under hbw hl, hb.trans (hbw.mono (by omega)), hl⟩
  all_goals simp [World.cell?_setCell_other, World.cell?_setCell_same', c0, c1, c2, c3, c4, c5, c6, c7, c8, c9, c10, c11]
theorem FR.setc {w0 W : World} {n b : Nat} {r : Ptr} (h : FR w0 n b r W) (x : Nat) : FR w0 n b ⟨r.ag, r.aa, r.bg, r.ba, r.two, r.sz, r.lv, r.bi, ⟨r.q.a, r.q.b, x, r.q.d⟩⟩ (W.setCell ⟨b, 10, none⟩ (.int .u64 x)) := by
  obtain ⟨⟨c0, c1, c2, c3, c4, c5, c6, c7, c8, c9, c10, c11, hlt⟩, hf, hr, hrf, hb, hl⟩ := h
  have hbw : Below b W (W.setCell ⟨b, 10, none⟩ (.int .u64 x)) := (Below.refl _ _).setCell (p := ⟨b, 10, none⟩) (Nat.le_refl _) _
  refine ⟨⟨?_, ?_, ?_, ?_, ?_, ?_, ?_, ?_, ?_, ?_, ?_, ?_, by simpa [World.setCell] using hlt⟩, fun j => by rw [World.frozen?_setCell]; exact hf j, hr.under hbw hl, hrf.under hbw hl, hb.trans (hbw.mono (by omega)), hl⟩
  all_goals simp [World.cell?_setCell_other, World.cell?_setCell_same', c0, c1, c2, c3, c4, c5, c6, c7, c8, c9, c10, c11]
theorem FR.setd {w0 W : World} {n b : Nat} {r : Ptr} (h : FR w0 n b r W) (x : Nat) : FR w0 n b ⟨r.ag, r.aa, r.bg, r.ba, r.two, r.sz, r.lv, r.bi, ⟨r.q.a, r.q.b, r.q.c, x⟩⟩ (W.setCell ⟨b, 11, none⟩ (.int .u64 x)) := by
  obtain ⟨⟨c0, c1, c2, c3, c4, c5, c6, c7, c8, c9, c10, c11, hlt⟩, hf, hr, hrf, hb, hl⟩ := h
  have hbw : Below b W (W.setCell ⟨b, 11, none⟩ (.int .u64 x)) := (Below.refl _ _).setCell (p := ⟨b, 11, none⟩) (Nat.le_refl _) _
  refine ⟨⟨?_, ?_, ?_, ?_, ?_, ?_, ?_, ?_, ?_, ?_, ?_, ?_, by simpa [World.setCell] using hlt⟩, fun j => by rw [World.frozen?_setCell]; exact hf j, hr.under hbw hl, hrf.under hbw hl, hb.trans (hbw.mono (by omega)), hl⟩
  all_goals simp [World.cell?_setCell_other, World.cell?_setCell_same', c0, c1, c2, c3, c4, c5, c6, c7, c8, c9, c10, c11]
theorem FR.start {w0 W : World} {n : Nat} {v : Value} {zs : List Int} (h : ER w0 n v zs W) (r : Ptr) : FR w0 n W.heap.size r (W.alloc (.cells r.cells 28)).drew := by
  have hb : Below W.heap.size W (W.alloc (.cells r.cells 28)).drew := (boxed _ _).drew
  exact ⟨(Box.new W r).next (Below.refl _ _).drew, fun j => World.frozen?_alloc_at _ _ _ _ rfl, h.res.next hb, h.free.under hb h.res.lt, h.below.trans (hb.mono (Nat.le_of_lt h.res.lt)), h.res.lt⟩

set_option maxHeartbeats 2000000 in
theorem refRead9_any (s : ByteArray) (hs : s.size ≤ maxLen) (w : World) :
    Calls Try.prog 14 #[.string s] w fun e w' => e = .returned (.tuple #[(readV s).val, .int .i64 (readE s)]) ∧ Below w.heap.size w w' := by
  unfold maxLen at hs
  by_cases h1 : s.size < 64
  · have HE : Hid (readE s = 2) := Lib.hid (by rw [readE, if_pos h1])
    have HV : Hid (readV s = noP) := Lib.hid (by rw [readV, HE.out]; rfl)
    go_enter Try.func14, Try.ntmps14
    go_wp2
    refine bodyPost_ret (v := .tuple #[noP.val, .int .i64 2]) (by simp [results, Try.results14, go_sem, Ptr.val, Ptr.cells, noP, zeroQ]) rfl ⟨by rw [HE.out, HV.out], boxed _ _⟩
  by_cases h2 : 64 < s.size
  · have HE : Hid (readE s = 3) := Lib.hid (by rw [readE, if_neg h1, if_pos h2])
    have HV : Hid (readV s = noP) := Lib.hid (by rw [readV, HE.out]; rfl)
    go_enter Try.func14, Try.ntmps14
    go_wp2
    refine bodyPost_ret (v := .tuple #[noP.val, .int .i64 3]) (by simp [results, Try.results14, go_sem, Ptr.val, Ptr.cells, noP, zeroQ]) rfl ⟨by rw [HE.out, HV.out], boxed _ _⟩
  have hsz : s.size = 64 := by omega
  have HS := Lib.hid hsz
  have HEE : Hid (readE s = if zerosB (tailB s 56) = true ∧ numS s 4 < 131072 then 0 else 3) := Lib.hid (by rw [readE, if_neg h1, if_neg h2])
  have H0 : Hid (ER w w.heap.size (.slice none 0 0) (numsS s 0) (w.alloc (.cells noP.cells 28))) :=
    Lib.hid ⟨OwnI.nil _ _, Box.new w noP, new_free w noP.cells 28, boxed w _⟩
  clear h1 h2
  go_enter Try.func14, Try.ntmps14
  go_wp2_with fail
  generalize hn : w.heap.size = n at *
  have HN := Lib.hid hn
  clear hn
  have hz : Hid (∃ W, W = w.alloc (.cells noP.cells 28)) := Lib.hid ⟨_, rfl⟩
  simp only [Ptr.cells, noP, zeroQ] at H0
  generalize w.alloc _ = W0 at H0 ⊢
  go_loopw [4, 5] (fun v i wr => ∃ k : Nat, k ≤ 6 ∧ i = .int .i64 (k : Int) ∧ Hid (ER w n v (numsS s k) wr)) (fun _ i _ => 6 - (intOf i).toNat)
  case atStart => exact ⟨0, Nat.zero_le _, rfl, H0⟩
  case round =>
    obtain ⟨k, hk, rfl, HK⟩ := hrel
    by_cases hlt : k < 6
    · go_wp2_with fail
      refine (num4 s k _).mono ?_
      rintro e w2 ⟨rfl, rfl⟩
      have HNS := Lib.hid (numsS_succ s k)
      have hz := numS_lt s k
      generalize numS s k = z at hz HNS ⊢
      have hl := HK.out.res.lt
      have HB1 := Lib.hid (boxed wr (.cells #[.int .i64 (z : Int)] 3))
      have HLE : Hid ((numsS s k).length ≤ 100000) := Lib.hid (by rw [numsS_len]; omega)
      go_wp2_with (first | (at_builtin; refine wpList_append_int _ rfl _ _ rfl (n + 1) _ (numsS s k) (z : Int) wr.heap.size 1 rfl rfl (HK.out.own.below HB1.out) (by simp) (by simp; omega) HLE.out ?_; intro v3 w3 hown3 hb3 hs3))
      have HE3 : Hid (ER w n v3 (numsS s (k + 1)) w3) := Lib.hid ⟨by rw [HNS.out]; exact hown3, (HK.out.res.next HB1.out).under hb3 (by omega), (HK.out.free.under HB1.out hl).under hb3 (by omega), (HK.out.below.trans (HB1.out.mono (by omega))).trans (hb3.mono (by omega))⟩
      clear hown3 hb3 hs3 HB1 hz
      go_roundw
      case rel => exact ⟨k + 1, by omega, by go_num, HE3⟩
      case measure => simp [intOf]; omega
    · obtain rfl : k = 6 := by omega
      obtain ⟨a, n', c, rfl, hlen, hcap, hcell⟩ := HK.out.own.v
      have hl6 := numsS_len s 6
      obtain rfl : n' = 6 := by rw [← hlen, hl6]
      obtain ⟨g, rfl, hg, -⟩ := hcell 0 (by rw [hl6]; omega)
      have cell : ∀ i, i < 6 → wr.cell? ⟨g, i, none⟩ = some (.int .i64 (numS s i : Nat)) := fun i hi => by
        obtain ⟨g', e, _, h⟩ := hcell i (by rw [hl6]; exact hi)
        cases e
        rw [h, numsS_get]
      have HP : Hid (readP s = ⟨numS s 0, numS s 1, numS s 2, numS s 3, decide (65536 ≤ (numS s 4 : Int)), (numS s 4 : Int) % 256, (numS s 4 : Int) % 65536 / 256, numS s 5, readQ (tailB s 24)⟩) := Lib.hid rfl
      have e0 := cell 0 (by omega)
      have e1 := cell 1 (by omega)
      have e2 := cell 2 (by omega)
      have e3 := cell 3 (by omega)
      have e4 := cell 4 (by omega)
      have e5 := cell 5 (by omega)
      have N0 := fun w => Lib.hid (num8 s 24 32 rfl (readQ (tailB s 24)).a (by rw [readQ, tailB_list]) w)
      have N1 := fun w => Lib.hid (num8 s 32 40 rfl (readQ (tailB s 24)).b (by simp only [readQ, tailB_list, List.drop_drop]) w)
      have N2 := fun w => Lib.hid (num8 s 40 48 rfl (readQ (tailB s 24)).c (by simp only [readQ, tailB_list, List.drop_drop]) w)
      have N3 := fun w => Lib.hid (num8 s 48 56 rfl (readQ (tailB s 24)).d (by simp only [readQ, tailB_list, List.drop_drop]) w)
      generalize readQ (tailB s 24) = q at HP N0 N1 N2 N3
      generalize numS s 0 = m0 at HP e0
      generalize numS s 1 = m1 at HP e1
      generalize numS s 2 = m2 at HP e2
      generalize numS s 3 = m3 at HP e3
      generalize numS s 4 = m4 at HP HEE e4
      generalize numS s 5 = m5 at HP e5
      obtain ⟨zb, hzb⟩ : ∃ zb, zerosB (tailB s 56) = zb := ⟨_, rfl⟩
      rw [hzb] at HEE
      have HZ : Hid (∀ w, Calls Try.prog 18 #[.string (s.extract 56 64)] w fun e w' => e = .returned (.bool zb) ∧ w = w') := Lib.hid fun w => by
        have e : s.extract 56 64 = tailB s 56 := by rw [tailB, HS.out]
        rw [e, ← hzb]
        exact refZeros_any _ w (by rw [tailB_size, HS.out]; decide)
      obtain ⟨c0, c1, c2, c3, c4, c5, c6, c7, c8, c9, c10, c11, hlt'⟩ := id HK.out.res
      have f0 := HK.out.free 0
      have f1 := HK.out.free 1
      have f2 := HK.out.free 2
      have f3 := HK.out.free 3
      have f4 := HK.out.free 4
      have f5 := HK.out.free 5
      have f6 := HK.out.free 6
      have f7 := HK.out.free 7
      have f8 := HK.out.free 8
      have f9 := HK.out.free 9
      have f10 := HK.out.free 10
      have f11 := HK.out.free 11
      clear cell hcell hlen hl6 hcap hzb
      by_cases hm : 131072 ≤ m4
      · have HE : Hid (readE s = 3) := Lib.hid (by rw [HEE.out, if_neg (by omega)])
        have HV : Hid (readV s = noP) := Lib.hid (by rw [readV, HE.out]; rfl)
        have hd : decide ((131072 : Int) ≤ (m4 : Int)) = true := decide_eq_true (by omega)
        clear HEE hm e0 e1 e2 e3 e5 N0 N1 N2 N3
        go_wp2
        change bodyPost _ _ _ _ _ (putB wr n noP)
        have hp := HK.out.res.put noP
        have hb : Below w.heap.size w (putB wr n noP) := by rw [HN.out]; exact HK.out.below.trans (putB_below (Nat.le_refl _) _)
        generalize putB wr n noP = W9 at hp hb ⊢
        clear c0 c1 c2 c3 c4 c5 c6 c7 c8 c9 c10 c11 hlt' f0 f1 f2 f3 f4 f5 f6 f7 f8 f9 f10 f11
        obtain ⟨c0, c1, c2, c3, c4, c5, c6, c7, c8, c9, c10, c11, hlt'⟩ := hp
        refine bodyPost_ret (v := .tuple #[noP.val, .int .i64 3]) (by simp [results, Try.results14, go_sem, c0, c1, c2, c3, c4, c5, c6, c7, c8, c9, c10, c11, Ptr.val, Ptr.cells]) rfl ⟨by rw [HE.out, HV.out], hb⟩
      · have hd : decide ((131072 : Int) ≤ (m4 : Int)) = false := decide_eq_false (by omega)
        cases zb with
        | false =>
          have HE : Hid (readE s = 3) := Lib.hid (by rw [HEE.out]; rfl)
          have HV : Hid (readV s = noP) := Lib.hid (by rw [readV, HE.out]; rfl)
          clear HEE hm e0 e1 e2 e3 e5 N0 N1 N2 N3
          go_wp2_with fail
          refine (HZ.out _).mono ?_
          rintro e w3 ⟨rfl, rfl⟩
          go_wp2
          change bodyPost _ _ _ _ _ (putB wr n noP)
          have hp := HK.out.res.put noP
          have hb : Below w.heap.size w (putB wr n noP) := by rw [HN.out]; exact HK.out.below.trans (putB_below (Nat.le_refl _) _)
          generalize putB wr n noP = W9 at hp hb ⊢
          clear c0 c1 c2 c3 c4 c5 c6 c7 c8 c9 c10 c11 hlt' f0 f1 f2 f3 f4 f5 f6 f7 f8 f9 f10 f11
          obtain ⟨c0, c1, c2, c3, c4, c5, c6, c7, c8, c9, c10, c11, hlt'⟩ := hp
          refine bodyPost_ret (v := .tuple #[noP.val, .int .i64 3]) (by simp [results, Try.results14, go_sem, c0, c1, c2, c3, c4, c5, c6, c7, c8, c9, c10, c11, Ptr.val, Ptr.cells]) rfl ⟨by rw [HE.out, HV.out], hb⟩
        | true =>
          have HE : Hid (readE s = 0) := Lib.hid (by rw [HEE.out, if_pos ⟨rfl, by omega⟩])
          have HV : Hid (readV s = readP s) := Lib.hid (by rw [readV, HE.out, if_pos rfl])
          have HM : Hid (m4 < 131072) := Lib.hid (by omega)
          clear HEE hm
          go_wp2_with fail
          refine (HZ.out _).mono ?_
          rintro e w3 ⟨rfl, rfl⟩
          clear c0 c1 c2 c3 c4 c5 c6 c7 c8 c9 c10 c11 f0 f1 f2 f3 f4 f5 f6 f7 f8 f9 f10 f11
          go_wp2_with fail
          have hS0 : Below wr.heap.size wr wr.drew := (Below.refl _ wr).drew
          have HA : Hid (∀ W : World, Below wr.heap.size wr W → W.cell? ⟨g, 0, none⟩ = some (.int .i64 (m0 : Int)) ∧ W.cell? ⟨g, 1, none⟩ = some (.int .i64 (m1 : Int)) ∧ W.cell? ⟨g, 2, none⟩ = some (.int .i64 (m2 : Int)) ∧ W.cell? ⟨g, 3, none⟩ = some (.int .i64 (m3 : Int)) ∧ W.cell? ⟨g, 4, none⟩ = some (.int .i64 (m4 : Int)) ∧ W.cell? ⟨g, 5, none⟩ = some (.int .i64 (m5 : Int)) ∧ Below wr.heap.size wr W) := Lib.hid fun W hb =>
            ⟨(hb.cell (p := ⟨g, 0, none⟩) hg).trans e0, (hb.cell (p := ⟨g, 1, none⟩) hg).trans e1, (hb.cell (p := ⟨g, 2, none⟩) hg).trans e2, (hb.cell (p := ⟨g, 3, none⟩) hg).trans e3, (hb.cell (p := ⟨g, 4, none⟩) hg).trans e4, (hb.cell (p := ⟨g, 5, none⟩) hg).trans e5, hb⟩
          go_region_held3 (fun W => W.cell? ⟨g, 0, none⟩ = some (.int .i64 (m0 : Int)) ∧ W.cell? ⟨g, 1, none⟩ = some (.int .i64 (m1 : Int)) ∧ W.cell? ⟨g, 2, none⟩ = some (.int .i64 (m2 : Int)) ∧ W.cell? ⟨g, 3, none⟩ = some (.int .i64 (m3 : Int)) ∧ W.cell? ⟨g, 4, none⟩ = some (.int .i64 (m4 : Int)) ∧ W.cell? ⟨g, 5, none⟩ = some (.int .i64 (m5 : Int)) ∧ Below wr.heap.size wr W)
            ((refine HA.out _ ?_; repeat (first | with_reducible exact hS0 | with_reducible exact Below.refl _ _ | with_reducible refine grows_alloc ?_ _ | with_reducible refine Below.drew ?_)))
            (first | fail)
          clear HA hS0 e0 e1 e2 e3 e4 e5
          rw [show Int.tmod (m4 : Int) 256 = (m4 : Int) % 256 from Int.tmod_eq_emod_of_nonneg (by omega), show IntKind.i64.wrap ((m4 : Int) / 256) = (m4 : Int) / 256 by rw [IntKind.wrap_i64]; have := HM.out; omega,
            show Int.tmod ((m4 : Int) / 256) 256 = (m4 : Int) % 65536 / 256 by rw [Int.tmod_eq_emod_of_nonneg (by omega)]; have := HM.out; omega]
          generalize (m4 : Int) % 256 = sz at HP ⊢
          generalize (m4 : Int) % 65536 / 256 = lv at HP ⊢
          generalize decide (65536 ≤ (m4 : Int)) = tw at HP ⊢
          have HF := Lib.hid (FR.start HK.out ⟨m0, m1, m2, m3, tw, sz, lv, m5, zeroQ⟩)
          simp only [Ptr.cells, zeroQ] at HF
          generalize (wr.alloc _).drew = W5 at HF ⊢
          generalize wr.heap.size = b at HF ⊢
          go_wp2_with fail
          refine wp_loop_rounds 5 ?_
          rw [rounds_succ]
          go_wp2_with fail
          refine (N0 _).out.mono ?_
          rintro e w4 ⟨rfl, rfl⟩
          have g0 := HF.out.box.c8
          have g1 := HF.out.free 8
          go_wp2_with fail
          replace HF := Lib.hid (HF.out.seta q.a)
          clear g0 g1
          generalize World.setCell _ _ _ = W6 at HF ⊢
          rw [rounds_succ]
          go_wp2_with fail
          refine (N1 _).out.mono ?_
          rintro e w4 ⟨rfl, rfl⟩
          have g0 := HF.out.box.c9
          have g1 := HF.out.free 9
          go_wp2_with fail
          replace HF := Lib.hid (HF.out.setb q.b)
          clear g0 g1
          generalize World.setCell _ _ _ = W7 at HF ⊢
          rw [rounds_succ]
          go_wp2_with fail
          refine (N2 _).out.mono ?_
          rintro e w4 ⟨rfl, rfl⟩
          have g0 := HF.out.box.c10
          have g1 := HF.out.free 10
          go_wp2_with fail
          replace HF := Lib.hid (HF.out.setc q.c)
          clear g0 g1
          generalize World.setCell _ _ _ = W8 at HF ⊢
          rw [rounds_succ]
          go_wp2_with fail
          refine (N3 _).out.mono ?_
          rintro e w4 ⟨rfl, rfl⟩
          have g0 := HF.out.box.c11
          have g1 := HF.out.free 11
          go_wp2_with fail
          replace HF := Lib.hid (HF.out.setd q.d)
          clear g0 g1
          generalize World.setCell _ _ _ = W9 at HF ⊢
          rw [rounds_succ]
          obtain ⟨⟨c0, c1, c2, c3, c4, c5, c6, c7, c8, c9, c10, c11, hlt'⟩, hf, ⟨d0, d1, d2, d3, d4, d5, d6, d7, d8, d9, d10, d11, hlu⟩, hrf, _, _⟩ := id HF.out
          have f0 := hrf 0
          have f1 := hrf 1
          have f2 := hrf 2
          have f3 := hrf 3
          have f4 := hrf 4
          have f5 := hrf 5
          have f6 := hrf 6
          have f7 := hrf 7
          have f8 := hrf 8
          have f9 := hrf 9
          have f10 := hrf 10
          have f11 := hrf 11
          clear hf hrf
          dsimp only at c0 c1 c2 c3 c4 c5 c6 c7 c8 c9 c10 c11
          go_wp2
          generalize hr : (⟨m0, m1, m2, m3, tw, sz, lv, m5, q⟩ : Ptr) = r at HP
          have HW : Hid (∀ P : World → Prop, P (putB W9 n r) → P (putB W9 n ⟨m0, m1, m2, m3, tw, sz, lv, m5, q⟩)) := Lib.hid (fun P h => by rw [hr]; exact h)
          refine HW.out (fun W => bodyPost _ _ _ _ _ W) ?_
          have hp := HF.out.res.put r
          have hb : Below w.heap.size w (putB W9 n r) := by rw [HN.out]; exact HF.out.below.trans (putB_below (Nat.le_refl _) _)
          generalize putB W9 n r = W10 at hp hb ⊢
          clear c0 c1 c2 c3 c4 c5 c6 c7 c8 c9 c10 c11 hlt' f0 f1 f2 f3 f4 f5 f6 f7 f8 f9 f10 f11 d0 d1 d2 d3 d4 d5 d6 d7 d8 d9 d10 d11 hlu HW hr
          obtain ⟨c0, c1, c2, c3, c4, c5, c6, c7, c8, c9, c10, c11, hlt'⟩ := hp
          refine bodyPost_ret (v := .tuple #[r.val, .int .i64 0]) (by simp [results, Try.results14, go_sem, c0, c1, c2, c3, c4, c5, c6, c7, c8, c9, c10, c11, Ptr.val, Ptr.cells]) rfl ⟨by rw [HE.out, HV.out, HP.out], hb⟩
end Go.Proofs.Ythpifplflhhkiaa
