/-
  space.find, Find.
-/
import Derived.Test.YtoiiaacjpobaeaaSh
namespace Go.Proofs.Ytoiiaacjpobaeaa
set_option maxRecDepth 100000
open Go.RowKit

/-- The first sector, from f on, of a free stretch of n. -/
def FirstR (z : Int) (l : List (Int × Int)) (n f a : Int) : Prop := FreeR z l a n ∧ f ≤ a ∧ ∀ s, f ≤ s → s < a → ¬ FreeR z l s n
/-- Where the search has come to. -/
structure Seek (z : Int) (l : List (Int × Int)) (n f : Int) (p s : List (Int × Int)) (a : Int) : Prop where
  cut : Cut l p s a
  le : f ≤ a
  top : a ≤ z
  no : ∀ t, f ≤ t → t < a → ¬ FreeR z l t n
theorem Seek.start {z n f : Int} {l l1 l2 : List (Int × Int)} (hc : Cut l l1 l2 f) (hf : f ≤ z) : Seek z l n f l1 l2 f := ⟨hc, Int.le_refl _, hf, fun t h1 h2 => by omega⟩
theorem Seek.step {z n f a : Int} {l p s : List (Int × Int)} {r : Int × Int} (h : Seek z l n f p (r :: s) a) (hw : WF z l) (hn : r.1 - a < n) : Seek z l n f (p ++ [r]) s (r.1 + r.2) := by
  have hw2 := hw
  rw [h.cut.eq] at hw2
  have hr := hw2.right.head
  have hra := h.cut.hi r List.mem_cons_self
  refine ⟨⟨by rw [h.cut.eq]; simp, fun q hq => ?_, fun q hq => ?_⟩, by have := h.le; omega, by omega, fun t h1 h2 hf => ?_⟩
  · rcases List.mem_append.1 hq with hq | hq
    · have := h.cut.lo q hq; omega
    · rw [List.mem_singleton.1 hq]; omega
  · have := (List.pairwise_cons.1 hw2.right.ap).1 q hq
    have := hw2.right.tail.ok q hq
    omega
  · by_cases hta : t < a
    · exact h.no t h1 hta hf
    · refine hf.2.2.2 (max t r.1) (by omega) (by have := hf.2.1; omega) ?_
      rw [h.cut.eq, inR_app, inR_cons]
      exact .inr (.inl ⟨by omega, by omega⟩)
theorem Seek.found {z n f a : Int} {l p s : List (Int × Int)} {r : Int × Int} (h : Seek z l n f p (r :: s) a) (hw : WF z l) (h0 : 0 ≤ f) (h1 : 1 ≤ n) (hn : n ≤ r.1 - a) : FirstR z l n f a := by
  have hw2 := hw
  rw [h.cut.eq] at hw2
  have hr := hw2.right.head
  have := h.le
  refine ⟨⟨by omega, h1, by omega, h.cut.free fun c hc => ?_⟩, h.le, h.no⟩
  rcases List.mem_cons.1 hc with rfl | hc
  · omega
  · have := (List.pairwise_cons.1 hw2.right.ap).1 c hc; omega
theorem Seek.last {z n f a : Int} {l p : List (Int × Int)} (h : Seek z l n f p [] a) (h0 : 0 ≤ f) (h1 : 1 ≤ n) (hn : n ≤ z - a) : FirstR z l n f a :=
  ⟨⟨by have := h.le; omega, h1, by omega, h.cut.free fun c hc => by cases hc⟩, h.le, h.no⟩
theorem Seek.none {z n f a : Int} {l p : List (Int × Int)} (h : Seek z l n f p [] a) (hn : z - a < n) : ∀ t, f ≤ t → ¬ FreeR z l t n := fun t h1 hf => by
  by_cases hta : t < a
  · exact h.no t h1 hta hf
  · have := hf.2.2.1; omega

def FindA (z : Int) (l : List (Int × Int)) (n f a : Int) (ok : Bool) : Prop := (ok = true ∧ FirstR z l n f a) ∨ (ok = false ∧ a = 0 ∧ ∀ s, f ≤ s → ¬ FreeR z l s n)
def FindV (z : Int) (l : List (Int × Int)) (n f : Int) (w : World) (e : Ending) (w' : World) : Prop := ∃ a ok, e = .returned (.tuple #[.int .i64 a, .bool ok]) ∧ FindA z l n f a ok ∧ Below w.heap.size w w'

section
variable {B : Nat} {x : Nat → Prop} {w : World} {b : Nat} {z : Int} {l l1 l2 : List (Int × Int)} {n f : Int}
set_option maxHeartbeats 1000000 in
/-- There is nothing from f on. -/
theorem find_none (h : MapIn B x w b z l) (hw : WF z l) (hz : 0 ≤ z ∧ z ≤ 65536) (hc : Cut l l1 [] f) (h1 : 1 ≤ n) (hn : I64 n) (h0 : 0 ≤ f) (hf : f ≤ z) :
    Calls Try.prog 28 #[.pointer (some ⟨b, 0, none⟩), .int .i64 n, .int .i64 f] w (FindV z l n f w) := by
  obtain ⟨k, hk⟩ : ∃ k, l1.length = k := ⟨_, rfl⟩
  have CN := Lib.hid (Ext.calls (W := w) fun w' hb => next_ok (h.below hb) hw hz hc k hk)
  obtain ⟨v, h⟩ := h
  have hbl := h.mv.lt
  have c0 := h.mv.c0
  have c1 := h.mv.c1
  obtain ⟨z0, z1⟩ := hz
  obtain ⟨n0, n2⟩ := hn
  have hll := hw.len ⟨z0, z1⟩
  have HS := Lib.hid (Seek.start (n := n) hc hf)
  have hlk : l.length = k := by rw [hc.eq, List.append_nil]; exact hk
  have e1 := fun q : Ext w => q.cell c1 hbl
  rcases h.mv.r with ⟨rfl, hl⟩ | ⟨g, N, c, rfl, hN, hNc, hcm, _⟩
  · obtain rfl : k = 0 := by rw [← hlk, hl]; rfl
    clear h hw hc hk hlk hll c1 hl
    go_enter Try.func28, Try.ntmps28
    go_wp2_with fail
    haveI hne : Nonempty (Ext w) := Ext.some w
    refine wp_region_family (Ext.v (W := w)) (by kernel_rfl) (by kernel_rfl) ⟨⟨_, (Below.refl _ w).drew⟩, rfl⟩ ?_
    repeat (go_big_quiet_step (first | (go_at_call 24; exact CN.out _)))
    refine wpQuiet_nil ?_
    rintro w7 ⟨⟨w8, h8⟩, rfl⟩
    have k0 := cell_next c0 h8
    have HB := Lib.hid h8
    clear e1 CN hne h8 c0
    by_cases hd : n ≤ z - f
    · go_wp2_with fail
      refine wp_loop_rounds 1 ?_
      rw [rounds_succ]
      go_wp2
      go_ret2
      exact ⟨_, _, rfl, .inl ⟨rfl, HS.out.last h0 h1 hd⟩, HB.out⟩
    · go_wp2_with fail
      refine wp_loop_rounds 1 ?_
      rw [rounds_succ]
      go_wp2
      go_ret2
      exact ⟨_, _, rfl, .inr ⟨rfl, rfl, HS.out.none (by omega)⟩, HB.out⟩
  · obtain rfl : N = k := by omega
    by_cases hck : c = N
    · subst hck
      clear h hw hc hk hlk hll c1 hN
      go_enter Try.func28, Try.ntmps28
      go_wp2_with fail
      haveI hne : Nonempty (Ext w) := Ext.some w
      refine wp_region_family (Ext.v (W := w)) (by kernel_rfl) (by kernel_rfl) ⟨⟨_, (Below.refl _ w).drew⟩, rfl⟩ ?_
      repeat (go_big_quiet_step (first | (go_at_call 24; exact CN.out _)))
      refine wpQuiet_nil ?_
      rintro w7 ⟨⟨w8, h8⟩, rfl⟩
      have k0 := cell_next c0 h8
      have HB := Lib.hid h8
      clear e1 CN hne h8 c0
      by_cases hd : n ≤ z - f
      · go_wp2_with fail
        refine wp_loop_rounds 1 ?_
        rw [rounds_succ]
        go_wp2
        go_ret2
        exact ⟨_, _, rfl, .inl ⟨rfl, HS.out.last h0 h1 hd⟩, HB.out⟩
      · go_wp2_with fail
        refine wp_loop_rounds 1 ?_
        rw [rounds_succ]
        go_wp2
        go_ret2
        exact ⟨_, _, rfl, .inr ⟨rfl, rfl, HS.out.none (by omega)⟩, HB.out⟩
    · have hcN : N < c := by omega
      clear h hw hc hk hlk hll c1 hN
      go_enter Try.func28, Try.ntmps28
      go_wp2_with fail
      haveI hne : Nonempty (Ext w) := Ext.some w
      refine wp_region_family (Ext.v (W := w)) (by kernel_rfl) (by kernel_rfl) ⟨⟨_, (Below.refl _ w).drew⟩, rfl⟩ ?_
      repeat (go_big_quiet_step (first | (go_at_call 24; exact CN.out _)))
      refine wpQuiet_nil ?_
      rintro w7 ⟨⟨w8, h8⟩, rfl⟩
      have k0 := cell_next c0 h8
      have HB := Lib.hid h8
      clear e1 CN hne h8 c0
      by_cases hd : n ≤ z - f
      · go_wp2_with fail
        refine wp_loop_rounds 1 ?_
        rw [rounds_succ]
        go_wp2
        go_ret2
        exact ⟨_, _, rfl, .inl ⟨rfl, HS.out.last h0 h1 hd⟩, HB.out⟩
      · go_wp2_with fail
        refine wp_loop_rounds 1 ?_
        rw [rounds_succ]
        go_wp2
        go_ret2
        exact ⟨_, _, rfl, .inr ⟨rfl, rfl, HS.out.none (by omega)⟩, HB.out⟩

set_option maxHeartbeats 2000000 in
/-- There are runs that end behind f. -/
theorem find_some (h : MapIn B x w b z l) (hw : WF z l) (hz : 0 ≤ z ∧ z ≤ 65536) (hc : Cut l l1 l2 f) (hl2 : 0 < l2.length) (h1 : 1 ≤ n) (hn : I64 n) (h0 : 0 ≤ f) (hf : f ≤ z) :
    Calls Try.prog 28 #[.pointer (some ⟨b, 0, none⟩), .int .i64 n, .int .i64 f] w (FindV z l n f w) := by
  obtain ⟨k, hk⟩ : ∃ k, l1.length = k := ⟨_, rfl⟩
  obtain ⟨m, hm⟩ : ∃ m, l2.length = m := ⟨_, rfl⟩
  have CN := Lib.hid (Ext.calls (W := w) fun w' hb => next_ok (h.below hb) hw hz hc k hk)
  obtain ⟨v, h⟩ := h
  have hbl := h.mv.lt
  have c0 := h.mv.c0
  have c1 := h.mv.c1
  obtain ⟨z0, z1⟩ := hz
  obtain ⟨n0, n2⟩ := hn
  have hll := hw.len ⟨z0, z1⟩
  have HS := Lib.hid (Seek.start (n := n) hc hf)
  have hlk : l.length = k + m := by rw [hc.eq, List.length_append]; omega
  have e1 := fun q : Ext w => q.cell c1 hbl
  rcases h.mv.r with ⟨rfl, hl⟩ | ⟨g, N, c, rfl, hN, hNc, hcm, hR⟩
  · rw [hl] at hlk; simp at hlk; omega
  have hkN : k ≤ N := by omega
  have hkc : k < c := by omega
  have hck : ¬ c = k := by omega
  have hNm : N - k = m := by omega
  have hm1 : k + m ≤ 65536 := by omega
  have HR := Lib.hid hR
  have HW := Lib.hid hw
  have HK := Lib.hid hk
  have HLK := Lib.hid hlk
  have hgl := hR.lt
  have HNM := Lib.hid hNm
  have HC0 := Lib.hid c0
  clear h hw hc hk hlk hll c1 hN hR hm hl2 hNm
  go_enter Try.func28, Try.ntmps28
  go_wp2_with fail
  haveI hne : Nonempty (Ext w) := Ext.some w
  refine wp_region_family (Ext.v (W := w)) (by kernel_rfl) (by kernel_rfl) ⟨⟨_, (Below.refl _ w).drew⟩, rfl⟩ ?_
  repeat (go_big_quiet_step (first | (go_at_call 24; exact CN.out _)))
  refine wpQuiet_nil ?_
  rintro w7 ⟨⟨w8, h8⟩, rfl⟩
  have k0 := cell_next c0 h8
  have HB := Lib.hid h8
  clear e1 CN hne h8 c0
  rw [HNM.out]
  go_wp2_with fail
  go_loopw [8, 21] (fun i8 i21 wr => ∃ (j : Nat) (a : Int) (p s : List (Int × Int)), j ≤ m ∧ i8 = .int .i64 a ∧ i21 = .int .i64 (j : Int) ∧ Hid (p.length = k + j) ∧ Hid (Seek z l n f p s a) ∧ Hid (Below w.heap.size w wr)) (fun _ i _ => m - (intOf i).toNat)
  case atStart => exact ⟨0, f, l1, l2, Nat.zero_le _, rfl, rfl, Lib.hid (by rw [HK.out]; rfl), HS, HB⟩
  case round =>
    obtain ⟨j, a, p, s, hj, rfl, rfl, HP, HSK, HBr⟩ := hrel
    have a0 := HSK.out.le
    have a1 := HSK.out.top
    clear k0
    have k0 := (HBr.out.cell (p := ⟨b, 0, none⟩) hbl).trans HC0.out
    by_cases hlt : j < m
    · have hs0 : 0 < s.length := by have e1 := HLK.out; have e2 := HP.out; rw [HSK.out.cut.eq, List.length_append] at e1; omega
      obtain ⟨⟨rx, ry⟩, s', rfl⟩ : ∃ r s', s = r :: s' := by
        cases s with
        | nil => simp at hs0
        | cons r s' => exact ⟨r, s', rfl⟩
      have hkj : k + j < l.length := by rw [HLK.out]; omega
      have hel : l[k + j] = (rx, ry) := by
        have e1 := HSK.out.cut.eq
        have e2 := HP.out
        simp only [e1]
        rw [List.getElem_append_right (by omega)]
        simp [e2]
      have hr := HR.out.is (k + j) hkj
      rw [hel, show (k + j) * 2 = k * 2 + j * 2 by omega] at hr
      obtain ⟨r0, r1⟩ := (hr.below hgl HBr.out).pair
      obtain ⟨o0, o1, o2⟩ : 0 ≤ rx ∧ 1 ≤ ry ∧ rx + ry ≤ z := HW.out.ok (rx, ry) (by rw [← hel]; exact List.getElem_mem _)
      clear hs0 hkj hel hr
      by_cases hd : n ≤ rx - a
      · go_wp2
        go_ret2
        exact ⟨_, _, rfl, .inl ⟨rfl, HSK.out.found HW.out h0 h1 hd⟩, next HBr.out (boxed _ _)⟩
      · go_wp2_with fail
        refine (end_ok rx ry _ o0 (by omega) (by omega)).mono ?_
        rintro e w2 ⟨rfl, b2⟩
        have HB2 := Lib.hid (next HBr.out (next (boxed _ _) b2))
        clear b2
        go_wp2
        go_roundw
        case rel => exact ⟨j + 1, rx + ry, p ++ [(rx, ry)], s', by omega, rfl, by go_num, Lib.hid (by rw [List.length_append, HP.out]; rfl), Lib.hid (HSK.out.step HW.out (by simp; omega)), HB2⟩
        case measure => simp [intOf]; omega
    · have hs0 : s.length = 0 := by have e1 := HLK.out; have e2 := HP.out; rw [HSK.out.cut.eq, List.length_append] at e1; omega
      obtain rfl := List.eq_nil_of_length_eq_zero hs0
      clear hs0
      by_cases hd : n ≤ z - a
      · go_wp2
        go_ret2
        exact ⟨_, _, rfl, .inl ⟨rfl, HSK.out.last h0 h1 hd⟩, HBr.out⟩
      · go_wp2
        go_ret2
        exact ⟨_, _, rfl, .inr ⟨rfl, rfl, HSK.out.none (by omega)⟩, HBr.out⟩
theorem find_ok (h : MapIn B x w b z l) (hw : WF z l) (hz : 0 ≤ z ∧ z ≤ 65536) (h1 : 1 ≤ n) (hn : I64 n) (h0 : 0 ≤ f) (hf : f ≤ z) :
    Calls Try.prog 28 #[.pointer (some ⟨b, 0, none⟩), .int .i64 n, .int .i64 f] w (FindV z l n f w) := by
  obtain ⟨l1, l2, hc⟩ := hw.cut f
  cases l2 with
  | nil => exact find_none h hw hz hc h1 hn h0 hf
  | cons r s => exact find_some h hw hz hc (by simp) h1 hn h0 hf

/-- What Find answers. -/
def FindR (z : Int) (l : List (Int × Int)) (n f a : Int) (ok : Bool) : Prop :=
  (ok = true ∧ 1 ≤ n ∧ 0 ≤ f ∧ f ≤ z ∧ (FirstR z l n f a ∨ ((∀ s, f ≤ s → ¬ FreeR z l s n) ∧ FirstR z l n 0 a))) ∨ (ok = false ∧ a = 0 ∧ (n < 1 ∨ f < 0 ∨ z < f ∨ ∀ s, ¬ FreeR z l s n))
def FoundV (z : Int) (l : List (Int × Int)) (n f : Int) (w : World) (e : Ending) (w' : World) : Prop := ∃ a ok, e = .returned (.tuple #[.int .i64 a, .bool ok]) ∧ FindR z l n f a ok ∧ Below w.heap.size w w'
theorem Find_nil (w : World) : Calls Try.prog 13 #[.pointer none, .int .i64 n, .int .i64 f] w fun e w' => e = .returned (.tuple #[.int .i64 0, .bool false]) ∧ w = w' := by
  go_enter Try.func13, Try.ntmps13
  go_wp2
  go_ret2
  exact ⟨rfl, rfl⟩
set_option maxHeartbeats 1000000 in
theorem Find_ok (h : MapIn B x w b z l) (hw : WF z l) (hz : 0 ≤ z ∧ z ≤ 65536) (hn : I64 n) :
    Calls Try.prog 13 #[.pointer (some ⟨b, 0, none⟩), .int .i64 n, .int .i64 f] w (FoundV z l n f w) := by
  have c0 : w.cell? ⟨b, 0, none⟩ = some (.int .i64 z) := by obtain ⟨v, h⟩ := h; exact h.mv.c0
  have H := Lib.hid h
  have HW := Lib.hid hw
  have HZ := Lib.hid hz
  have HN := Lib.hid hn
  clear h hw hz hn
  by_cases h1 : n < 1
  · have d1 : decide (n < 1) = true := decide_eq_true h1
    go_enter Try.func13, Try.ntmps13
    go_wp2
    go_ret2
    exact ⟨_, _, rfl, .inr ⟨rfl, rfl, .inl h1⟩, Below.refl _ _⟩
  have d1 : decide (n < 1) = false := decide_eq_false h1
  by_cases h2 : f < 0
  · have d2 : decide (f < 0) = true := decide_eq_true h2
    go_enter Try.func13, Try.ntmps13
    go_wp2
    go_ret2
    exact ⟨_, _, rfl, .inr ⟨rfl, rfl, .inr (.inl h2)⟩, Below.refl _ _⟩
  have d2 : decide (f < 0) = false := decide_eq_false h2
  by_cases h3 : z < f
  · have d3 : decide (z < f) = true := decide_eq_true h3
    go_enter Try.func13, Try.ntmps13
    go_wp2
    go_ret2
    exact ⟨_, _, rfl, .inr ⟨rfl, rfl, .inr (.inr (.inl h3))⟩, Below.refl _ _⟩
  have d3 : decide (z < f) = false := decide_eq_false h3
  go_enter Try.func13, Try.ntmps13
  go_wp2_with fail
  refine (find_ok (f := f) H.out HW.out HZ.out (by omega) HN.out (by omega) (by omega)).mono ?_
  rintro e w1 ⟨a, ok, rfl, hA, b1⟩
  have HA := Lib.hid hA
  have HB := Lib.hid b1
  clear hA b1
  cases ok with
  | true =>
    go_wp2
    go_ret2
    refine ⟨_, _, rfl, .inl ⟨rfl, by omega, by omega, by omega, ?_⟩, HB.out⟩
    rcases HA.out with ⟨_, h⟩ | ⟨h, _⟩
    · exact .inl h
    · cases h
  | false =>
    go_wp2_with fail
    refine (find_ok (f := 0) (H.out.below HB.out) HW.out HZ.out (by omega) HN.out (by omega) HZ.out.1).mono ?_
    rintro e w2 ⟨a2, ok2, rfl, hA2, b2⟩
    have HA2 := Lib.hid hA2
    have HB2 := Lib.hid (next HB.out b2)
    clear hA2 b2
    go_wp2
    go_ret2
    refine ⟨_, _, rfl, ?_, HB2.out⟩
    rcases HA.out with ⟨h, _⟩ | ⟨_, _, hno⟩
    · cases h
    · rcases HA2.out with ⟨e, h⟩ | ⟨e, e2, h⟩
      · exact .inl ⟨e, by omega, by omega, by omega, .inr ⟨hno, h⟩⟩
      · exact .inr ⟨e, e2, .inr (.inr (.inr fun s hs => h s hs.1 hs))⟩
end
end Go.Proofs.Ytoiiaacjpobaeaa
