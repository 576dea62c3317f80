/-
  vdev.Raw: what a block's columns read as.
  vdev.Flush.
-/
import Derived.Test.YtiffkbmcikiioaaGreatY30
import Derived.Test.YtiffkbmcikiioaaGreatY22
import Derived.StillTailTactics
import Derived.Test.YtiffkbmcikiioaaGreatY03

/- vdev.Raw: what a block's columns read as. -/
namespace Go.Proofs.YtiffkbmcikiioaaGreat
set_option maxRecDepth 100000
open Go.RowKit Go.Maps M

/-- What a column reads as. -/
def rawAt (ds : Nat → Dv) (aw : Nat → Bool) (L : List C) (j : Nat) : ByteArray := if hereB ds aw (devN L j) then strOf ((ds (devN L j)).now (atN L j)) else ⟨#[]⟩
def rawTo (ds : Nat → Dv) (aw : Nat → Bool) (L : List C) (m j : Nat) : List ByteArray := (List.range m).map fun i => if i < j then rawAt ds aw L i else ⟨#[]⟩
def rawL (ds : Nat → Dv) (aw : Nat → Bool) (L : List C) : List ByteArray := (List.range L.length).map (rawAt ds aw L)
theorem rawTo_zero (ds : Nat → Dv) (aw : Nat → Bool) (L : List C) (m : Nat) : rawTo ds aw L m 0 = List.replicate m ⟨#[]⟩ := by
  unfold rawTo
  simp only [Nat.not_lt_zero, if_false]
  rw [List.map_const', List.length_range]
theorem rawTo_all (ds : Nat → Dv) (aw : Nat → Bool) (L : List C) (m : Nat) (hm : L.length = m) : rawTo ds aw L m m = rawL ds aw L := by
  unfold rawTo rawL
  rw [hm]
  apply List.map_congr_left
  intro i hi
  rw [if_pos (List.mem_range.1 hi)]
theorem rawTo_set (ds : Nat → Dv) (aw : Nat → Bool) (L : List C) (m j : Nat) (hj : j < m) : (rawTo ds aw L m j).set j (rawAt ds aw L j) = rawTo ds aw L m (j + 1) := by
  unfold rawTo
  apply List.ext_getElem?
  intro i
  by_cases hi : i < m
  · by_cases e : j = i
    · subst e
      rw [List.getElem?_set_self (by simpa using hj), List.getElem?_map, List.getElem?_range hj]
      simp
    · rw [List.getElem?_set_ne e, List.getElem?_map, List.getElem?_map, List.getElem?_range hi]
      simp only [Option.map_some]
      congr 1
      by_cases h : i < j
      · rw [if_pos h, if_pos (by omega)]
      · rw [if_neg h, if_neg (by omega)]
  · rw [List.getElem?_eq_none (by simp; omega), List.getElem?_eq_none (by simp; omega)]
theorem rawTo_skip (ds : Nat → Dv) (aw : Nat → Bool) (L : List C) (m j : Nat) (h : hereB ds aw (devN L j) = false) : rawTo ds aw L m j = rawTo ds aw L m (j + 1) := by
  unfold rawTo
  apply List.map_congr_left
  intro i _
  by_cases e : i = j
  · subst e
    rw [if_neg (by omega), if_pos (by omega), rawAt, h]
    rfl
  · by_cases h : i < j
    · rw [if_pos h, if_pos (by omega)]
    · rw [if_neg h, if_neg (by omega)]
theorem rawL_len (ds : Nat → Dv) (aw : Nat → Bool) (L : List C) : (rawL ds aw L).length = L.length := by simp [rawL]
theorem rawL_at (ds : Nat → Dv) (aw : Nat → Bool) (L : List C) (j : Nat) (hj : j < L.length) : (rawL ds aw L).getD j ⟨#[]⟩ = rawAt ds aw L j := by
  unfold rawL
  rw [List.getD_eq_getElem?_getD, List.getElem?_map, List.getElem?_range hj]
  rfl

theorem cell_store {w : World} {g j b o : Nat} {v u : Value} (h : w.cell? ⟨b, o, none⟩ = some u) (hb : b ≠ g) : (w.setCell ⟨g, j, none⟩ v).cell? ⟨b, o, none⟩ = some u := by
  rw [World.cell?_setCell_other _ _ _ _ (by intro e; cases e; exact hb rfl)]
  exact h
section
variable {X : Nat → Prop} {B : Nat} {w : World} {x : Px} {l : List (Int × Int)} {ds : Nat → Dv} {aw : Nat → Bool} {K : Nat} {P : World → Prop}
set_option maxHeartbeats 4000000 in
theorem raw_ok (h : StX X B w x l ds aw K P) (k t z : Nat) (hBl : Blk l x.sc k t z) :
    Calls Tryz.prog 20 #[x.val, .agg #[.int .i64 (k : Int), .int .i64 (t : Int)], .int .i64 (z : Int)] w fun e w' =>
      ∃ v, e = .returned (.tuple #[v, .int .i64 0]) ∧ Own w' w.heap.size v (rawL ds aw (colsOf l k t z)) ∧ Below w.heap.size w w' := by
  obtain ⟨_, h32⟩ := h.right.1.devs h.right.2
  have hz4 := hBl.z4
  have hPd : Hid (∀ j (h : j < (colsOf l k t z).length), ((colsOf l k t z)[j].dev = (devN (colsOf l k t z) j : Int) ∧ devN (colsOf l k t z) j < x.n) ∧ (colsOf l k t z)[j].at_ = (atN (colsOf l k t z) j : Int) ∧ (atN (colsOf l k t z) j : Int) < x.sc) := Lib.hid fun j hj => by
    have hp := hBl.puts (s := ⟨(List.replicate (z * 64) (0 : UInt8)).toArray⟩) (by simp [ByteArray.size]) h.right.2
    exact ⟨hp.dev j hj, hp.at_ j hj⟩
  have hpos := hBl.laid.pos
  have hfew := hBl.laid.few
  obtain ⟨wa, w2, ea, e2, z2, H2, b2⟩ := boxes8 h k t 37 26
  have HA := Lib.hid ea
  have HE2 := Lib.hid e2
  have HB2 := Lib.hid b2
  have HR := Lib.hid (right8_any H2)
  have HST := Lib.hid H2
  have HBL := Lib.hid hBl
  obtain ⟨_, ⟨x0, x1, x2, x3⟩, y0, y1⟩ := H2.out
  unfold Px.val at HR ⊢
  generalize hL : colsOf l k t z = L at hPd hpos hfew ⊢
  have HL := Lib.hid hL
  clear h H2 ea e2 b2 hL hBl
  go_enter Tryz.func20, Tryz.ntmps20
  go_wp2_with (first | (rw [HA.out, HE2.out]; fail))
  rw [HA.out, HE2.out]
  go_wp2_with fail
  refine HR.out.mono ?_
  rintro e w3 ⟨rfl, b3⟩
  have HST3 := Lib.hid (HST.out.below b3)
  have HB3 := Lib.hid (next HB2.out b3)
  clear x0 x1 x2 x3 y0 y1 b3 HST HB2
  obtain ⟨_, ⟨x0, x1, x2, x3⟩, y0, y1⟩ := HST3.out.out
  have HC := Lib.hid (of_ok l x.sc x.g w3 HST3.out.meas k t z HBL.out)
  rw [HL.out] at HC
  unfold Px.g at HC
  go_wp2_with fail
  refine HC.out.mono ?_
  rintro e w4 ⟨v4, rfl, hO4, b4⟩
  have HST4 := Lib.hid (HST3.out.add b4 (New.cols hO4))
  have HB4 := Lib.hid (next HB3.out b4)
  obtain ⟨m, hm⟩ : ∃ m, L.length = m := ⟨_, rfl⟩
  obtain ⟨g1, c1, rfl, hgc1, hg1, _⟩ := hO4.some hpos
  rw [hm] at hpos hfew hgc1 ⊢
  clear x0 x1 x2 x3 y0 y1 HC hO4 HST3
  obtain ⟨w5, hmk, hO5, b5, z5⟩ := make_texts w4 w.heap.size m HB4.out.size (by omega)
  have HST5 := Lib.hid (HST4.out.below b5)
  have HB5 := Lib.hid (next HB4.out b5)
  have HO5 := Lib.hid hO5
  have HM := Lib.hid hm
  have HG : Hid (w.heap.size ≤ w4.heap.size) := Lib.hid HB4.out.size
  clear hm hO5 b4
  go_wp2_with fail
  have HB45 := Lib.hid b5
  have HNE : Hid (w.heap.size ≠ w4.heap.size ∧ ∀ d, d < x.n → x.lb ≠ w4.heap.size) := Lib.hid ⟨by
    have := World.block_lt_of_cell? w4 _ HST4.out.out.1.2.1.c0
    simp only at this
    omega, fun d hd => by
    obtain ⟨b, f, cl, _⟩ := HST4.out.at_ hd
    have := World.block_lt_of_cell? w4 _ cl
    simp only at this
    omega⟩
  generalize hgg : w4.heap.size = gg at *
  have HGG := Lib.hid hgg
  clear hmk b5 hgg HST5
  go_loopw [32] (fun i wr => ∃ j : Nat, j ≤ m ∧ i = .int .i64 j ∧ Own wr w.heap.size (.slice (some ⟨gg, 0, none⟩) m m) (rawTo ds aw L m j) ∧ Below gg w4 wr) (fun i _ => m - (intOf i).toNat)
  case atStart => exact ⟨0, Nat.zero_le _, rfl, by rw [rawTo_zero]; exact HO5.out, HB45.out⟩
  case round =>
    obtain ⟨j, hj, rfl, ho, hb⟩ := hrel
    have HO := Lib.hid ho
    have HS := Lib.hid (HST4.out.below (w' := wr) (by rw [HGG.out]; exact hb))
    have HB := Lib.hid hb
    have hgw : gg ≤ wr.heap.size := by have := hb.size; have := HGG.out; omega
    have HGW := Lib.hid hgw
    have HNW : Hid (wr.heap.size ≠ gg) := Lib.hid (by
      obtain ⟨g', eg, _, hg', _⟩ := ho.at_ hpos
      simp only [Option.some.injEq, Addr.mk.injEq, and_true] at eg
      omega)
    clear ho hb hgw
    obtain ⟨⟨_, ⟨x0, x1, x2, x3⟩, y0, y1⟩, hcl⟩ := HS.out.out
    by_cases hlt : j < m
    · have hjL : j < L.length := by rw [HM.out]; exact hlt
      obtain ⟨⟨d0, d1⟩, a0, a1⟩ := hPd.out j hjL
      obtain ⟨e0, e1, e2, e3⟩ := ownC_in hcl j hjL
      have HRA : Hid (rawAt ds aw L j = if hereB ds aw (devN L j) then strOf ((ds (devN L j)).now (atN L j)) else ⟨#[]⟩) := Lib.hid rfl
      have HSK : Hid (hereB ds aw (devN L j) = false → rawTo ds aw L m j = rawTo ds aw L m (j + 1)) := Lib.hid (rawTo_skip ds aw L m j)
      generalize devN L j = d at *
      generalize atN L j = a at *
      generalize L[j] = cc at *
      obtain ⟨cd, ca, cp, cr⟩ := cc
      simp only at d0 a0 e0 e1 e2 e3
      subst d0 a0
      have hb6 := boxed wr (.cells #[.int .i64 (d : Int), .int .i64 (a : Int), .bool cp, .int .i64 cr] 75)
      have HS6 := Lib.hid (HS.out.add hb6 (BoxC.new wr ⟨d, a, cp, cr⟩ _ (Nat.le_refl _) 75))
      have HO6 := Lib.hid (HO.out.below hb6)
      have HB6 := Lib.hid (HB.out.trans (hb6.mono HGW.out))
      have HH := Lib.hid (here_any HS6.out d d1)
      unfold Px.val at HH
      obtain ⟨⟨⟨_, ⟨f0, f1, f2, f3⟩, _⟩, _⟩, ⟨f4, f5, f6, f7⟩⟩ := HS6.out.out
      go_wp2_with fail
      refine HH.out.mono ?_
      rintro e w7 ⟨rfl, b7⟩
      have HS7 := Lib.hid (HS6.out.below b7)
      have HO7 := Lib.hid (HO6.out.below b7)
      have HB7 := Lib.hid (HB6.out.trans (b7.mono (by simp; exact Nat.le_succ_of_le HGW.out)))
      clear b7 hb6 x0 x1 x2 x3 y0 y1 e0 e1 e2 e3 f0 f1 f2 f3 f4 f5 f6 f7 hcl HS6 HO6 HB6 HH HS HO HB
      cases hh : hereB ds aw d with
      | false =>
        have HSK' := Lib.hid (HSK.out hh)
        clear HSK
        go_wp2
        go_roundw
        case rel => exact ⟨j + 1, by omega, by go_num, by rw [← HSK'.out]; exact HO7.out, HB7.out⟩
        case measure => simp [intOf]; omega
      | true =>
        rw [hh, if_pos rfl] at HRA
        have hl : (ds d).lost = false := by
          unfold hereB at hh
          simp at hh
          exact hh.2
        have hlen := (HS7.out.good d1).len
        obtain ⟨b, f, cl, hdv⟩ := (HS7.out.below (Below.refl _ w7).drew).at_ d1
        have HRD := Lib.hid (read_ok b (ds d) f a _ hdv hl (by omega))
        generalize strOf ((ds d).now a) = tx at *
        obtain ⟨⟨⟨_, ⟨x0, x1, x2, x3⟩, _⟩, _⟩, ⟨k0, k1, _, _⟩⟩ := HS7.out.out
        simp only at k0 k1
        obtain ⟨g', eg, _, _, _, _, hfz, hcg⟩ := HO7.out.at_ hpos
        simp only [Option.some.injEq, Addr.mk.injEq, and_true] at eg
        subst eg
        have hcj := hcg j (by simp [rawTo]; exact hlt)
        have hfj := hfz j hlt
        generalize (rawTo ds aw L m j)[j]'(by simp [rawTo]; exact hlt) = old at hcj
        clear hcg hfz hh hdv HSK hl
        have q1 : (0 : Int) ≤ (d : Int) := by omega
        have q2 : (d : Int) < (x.n : Int) := by omega
        have q3 : (0 : Int) ≤ (j : Int) := by omega
        have q4 : (j : Int) < (m : Int) := by omega
        go_wp2_with fail
        have n1 : w.heap.size ≠ gg := HNE.out.1
        have n2 : x.lb ≠ gg := HNE.out.2 d d1
        have n3 : wr.heap.size ≠ gg := HNW.out
        have m2 : (w7.drew.setCell ⟨gg, j, none⟩ (.string tx)).cell? ⟨w.heap.size, 2, none⟩ = some (.slice (some ⟨x.lb, 0, none⟩) x.n x.n) := cell_store x2 n1
        have m0 : (w7.drew.setCell ⟨gg, j, none⟩ (.string tx)).cell? ⟨wr.heap.size, 0, none⟩ = some (.int .i64 (d : Int)) := cell_store k0 n3
        have m1 : (w7.drew.setCell ⟨gg, j, none⟩ (.string tx)).cell? ⟨wr.heap.size, 1, none⟩ = some (.int .i64 (a : Int)) := cell_store k1 n3
        have m3 : (w7.drew.setCell ⟨gg, j, none⟩ (.string tx)).cell? ⟨x.lb, d, none⟩ = some (.pointer (some ⟨b, 0, none⟩)) := cell_store cl n2
        go_region_held3 (fun W => W.cell? ⟨w.heap.size, 2, none⟩ = some (.slice (some ⟨x.lb, 0, none⟩) x.n x.n) ∧ W.cell? ⟨wr.heap.size, 0, none⟩ = some (.int .i64 (d : Int)) ∧ W.cell? ⟨wr.heap.size, 1, none⟩ = some (.int .i64 (a : Int)) ∧ W.cell? ⟨x.lb, d, none⟩ = some (.pointer (some ⟨b, 0, none⟩)))
          (first | exact ⟨x2, k0, k1, cl⟩ | exact ⟨m2, m0, m1, m3⟩)
          (first | (go_at_call 47; refine HRD.out.mono ?_; rintro e w8 ⟨rfl, rfl⟩))
        all_goals go_wp2
        go_roundw
        case rel =>
          have hd7 : Below w7.heap.size w7 w7.drew := (Below.refl _ w7).drew
          refine ⟨j + 1, by omega, by go_num, ?_, HB7.out.drew.setCell (p := ⟨gg, j, none⟩) (Nat.le_refl _) _⟩
          rw [← rawTo_set _ _ _ _ _ hlt, HRA.out]
          exact (HO7.out.below hd7).set j hlt tx
        case measure => simp [intOf]; omega
    · obtain rfl : j = m := by omega
      go_wp2
      go_ret2
      refine ⟨_, rfl, ?_, HB4.out.trans (HB.out.mono HG.out)⟩
      have := HO.out
      rw [rawTo_all _ _ _ _ HM.out] at this
      exact this
end
end Go.Proofs.YtiffkbmcikiioaaGreat

/- vdev.Flush. -/
namespace Go.Proofs.YtiffkbmcikiioaaGreat
set_option maxRecDepth 100000
open Go.RowKit Go.Maps M

/-- The devices, of which the first j were flushed where they are here. -/
def flTo (ds : Nat → Dv) (aw : Nat → Bool) (j : Nat) (i : Nat) : Dv := if i < j ∧ hereB ds aw i = true then (ds i).flush else ds i
/-- How many of the first j aren't here. -/
def goneN (hr : Nat → Bool) : Nat → Nat
  | 0 => 0
  | j + 1 => if hr j then goneN hr j else goneN hr j + 1
theorem flTo_zero (ds : Nat → Dv) (aw : Nat → Bool) : flTo ds aw 0 = ds := by
  funext i
  unfold flTo
  simp
theorem flTo_yes (ds : Nat → Dv) (aw : Nat → Bool) (j : Nat) (h : hereB ds aw j = true) : upd (flTo ds aw j) j ((flTo ds aw j j).flush) = flTo ds aw (j + 1) := by
  funext i
  unfold upd flTo
  by_cases e : i = j
  · subst e; simp [h]
  · rw [if_neg e]
    by_cases h2 : i < j
    · simp [h2, show i < j + 1 by omega]
    · simp [h2, show ¬ i < j + 1 by omega]
theorem flTo_no (ds : Nat → Dv) (aw : Nat → Bool) (j : Nat) (h : hereB ds aw j = false) : flTo ds aw j = flTo ds aw (j + 1) := by
  funext i
  unfold flTo
  by_cases e : i = j
  · subst e; simp [h]
  · by_cases h2 : i < j
    · simp [h2, show i < j + 1 by omega]
    · simp [h2, show ¬ i < j + 1 by omega]
theorem flTo_here (ds : Nat → Dv) (aw : Nat → Bool) (j : Nat) : hereB (flTo ds aw j) aw = hereB ds aw := by
  funext i
  have : (flTo ds aw j i).lost = (ds i).lost := by unfold flTo; split <;> rfl
  unfold hereB
  rw [this]
theorem goneN_le (hr : Nat → Bool) (j : Nat) : goneN hr j ≤ j := by
  induction j with
  | zero => exact Nat.le_refl _
  | succ j ih => rw [goneN]; split <;> omega
/-- A set of as many numbers as are gone, all of them below j. -/
structure Gone (hr : Nat → Bool) (j : Nat) (S : List Nat) : Prop where
  len : S.length = goneN hr j
  lt : ∀ i ∈ S, i < j
theorem Gone.yes {hr : Nat → Bool} {j : Nat} {S : List Nat} (h : Gone hr j S) (hj : hr j = true) : Gone hr (j + 1) S := ⟨by rw [h.len, goneN, hj]; rfl, fun i hi => by have := h.lt i hi; omega⟩
theorem Gone.no {hr : Nat → Bool} {j : Nat} {S : List Nat} (h : Gone hr j S) (hj : hr j = false) : Gone hr (j + 1) (putN S j) := by
  have hn : j ∉ S := fun e => by have := h.lt j e; omega
  unfold putN
  rw [if_neg hn]
  refine ⟨by rw [List.length_append, h.len, goneN, hj]; rfl, fun i hi => ?_⟩
  rcases List.mem_append.1 hi with e | e
  · have := h.lt i e; omega
  · rw [List.mem_singleton.1 e]; omega

section
variable {X : Nat → Prop} {B : Nat} {w : World} {x : Px} {l : List (Int × Int)} {ds : Nat → Dv} {aw : Nat → Bool} {K : Nat} {P : World → Prop}
theorem fl_any (h : StX X B w x l ds aw K P) {i : Nat} (hi : i < x.n) (hl : (ds i).lost = false) (hK : K < 4000000000) :
    ∃ b, w.cell? ⟨x.lb, i, none⟩ = some (.pointer (some ⟨b, 0, none⟩)) ∧ ∀ w4, Below w.heap.size w w4 → Calls Tryz.prog 25 #[.pointer (some ⟨b, 0, none⟩)] w4 fun e w' =>
      e = .returned (.int .i64 0) ∧ StX X B w' x l (upd ds i (ds i).flush) aw K P ∧ Below B w4 w' ∧ w'.heap[x.lb]? = w4.heap[x.lb]? ∧ ∀ k, X k → w'.heap[k]? = w4.heap[k]? := by
  obtain ⟨b, f, hb, _⟩ := h.at_ hi
  refine ⟨b, hb, fun w4 b4 => ?_⟩
  have h4 := h.below b4
  obtain ⟨b', f', hb', hd', hdid⟩ := h4.did hi
  have hlt := World.block_lt_of_cell? w _ hb
  have e := (b4.cell (p := ⟨x.lb, i, none⟩) hlt).trans hb
  rw [hb'] at e
  simp only [Option.some.injEq, Value.pointer.injEq, Addr.mk.injEq, and_true] at e
  subst e
  have hg := h.good hi
  obtain ⟨e1, e2⟩ := spent_self hg.fused
  have hcnt := hg.cnt
  have hw := flush_ok b' (ds i) f' w4 hd' hl e2 (by omega)
  rw [e1] at hw
  refine hw.mono fun e w' ⟨he, hd⟩ => ⟨he, hdid _ w' K hd ⟨hg.fused, ?_, Nat.zero_le _⟩ (Nat.le_refl _)⟩
  have := hg.len
  show (((List.range (ds i).med.length).map (ds i).now).length : Int) = x.sc
  rw [List.length_map, List.length_range]
  exact this
def errF (N n : Nat) : Int := if N = n then 6 else 0
end
section
variable {B : Nat} {w : World} {x : Px} {l : List (Int × Int)} {ds : Nat → Dv} {aw : Nat → Bool} {K : Nat} {P : World → Prop}
end
end Go.Proofs.YtiffkbmcikiioaaGreat
