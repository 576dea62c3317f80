/-
  space: has, end, between, next (with sort.Search and its closure).
-/
import Derived.Test.YtoiiaacjpobaeaaSb
import Derived.Great.BuildSlice
namespace Go.Proofs.Ytoiiaacjpobaeaa
set_option maxRecDepth 100000
open Go.RowKit

/-- Numbers that fit. -/
abbrev I64 (n : Int) : Prop := -9223372036854775808 ≤ n ∧ n ≤ 9223372036854775807

theorem end_ok (x y : Int) (w : World) (h0 : 0 ≤ x) (h1 : 0 ≤ y) (h : x + y ≤ 100000) :
    Calls Try.prog 25 #[.agg #[.int .i64 x, .int .i64 y]] w fun e w' => e = .returned (.int .i64 (x + y)) ∧ Below w.heap.size w w' := by
  go_enter Try.func25, Try.ntmps25
  go_wp2
  go_ret
  exact ⟨rfl, boxed _ _⟩

/-- Is that a stretch of the map? -/
def hasB (z a n : Int) : Bool := decide (1 ≤ n ∧ 0 ≤ a ∧ a + n ≤ z)
theorem has_nil (a n : Int) (w : World) :
    Calls Try.prog 23 #[.pointer none, .int .i64 a, .int .i64 n] w fun e w' => e = .returned (.bool false) ∧ w = w' := by
  go_enter Try.func23, Try.ntmps23
  go_wp2
  go_ret
  exact ⟨rfl, rfl⟩
theorem has_ok (z a n : Int) (b : Nat) (w : World) (hc : w.cell? ⟨b, 0, none⟩ = some (.int .i64 z)) (hz : 0 ≤ z ∧ z ≤ 65536) (hn : I64 n) :
    Calls Try.prog 23 #[.pointer (some ⟨b, 0, none⟩), .int .i64 a, .int .i64 n] w fun e w' => e = .returned (.bool (hasB z a n)) ∧ w = w' := by
  obtain ⟨q0, q1⟩ := hn
  by_cases h1 : 1 ≤ n
  · by_cases h2 : 0 ≤ a
    · have hB : hasB z a n = decide (a ≤ z - n) := by
        unfold hasB
        by_cases h : a ≤ z - n
        · rw [decide_eq_true h, decide_eq_true (by omega)]
        · rw [decide_eq_false h, decide_eq_false (by omega)]
      rw [hB]
      clear hB
      have d1 : decide (1 ≤ n) = true := decide_eq_true h1
      have d2 : decide (0 ≤ a) = true := decide_eq_true h2
      go_enter Try.func23, Try.ntmps23
      go_wp2
      go_ret
      exact ⟨rfl, rfl⟩
    · have hB : hasB z a n = false := decide_eq_false (by omega)
      have d1 : decide (1 ≤ n) = true := decide_eq_true h1
      have d2 : decide (0 ≤ a) = false := decide_eq_false h2
      rw [hB]
      clear hB
      go_enter Try.func23, Try.ntmps23
      go_wp2
      go_ret
      exact ⟨rfl, rfl⟩
  · have hB : hasB z a n = false := decide_eq_false (by omega)
    have d1 : decide (1 ≤ n) = false := decide_eq_false h1
    rw [hB]
    clear hB
    go_enter Try.func23, Try.ntmps23
    go_wp2
    go_ret
    exact ⟨rfl, rfl⟩

theorem btw_no (x : Int) (w : World) :
    Calls Try.prog 27 #[.int .i64 x, .int .i64 x] w fun e w' => e = .returned (.slice none 0 0) ∧ w = w' := by
  go_enter Try.func27, Try.ntmps27
  go_wp2
  go_ret
  exact ⟨rfl, rfl⟩
theorem row_lit (w : World) (x y : Int) : Row (w.alloc (.cells #[.int .i64 x, .int .i64 y] 39)) w.heap.size 1 [(x, y)] :=
  ⟨[], by rw [heap_alloc_new w]; rfl, by simp⟩
/-- What between answers: own runs. -/
def BtwV (w : World) (x y : Int) (e : Ending) (w' : World) : Prop := ∃ g, e = .returned (.slice (some ⟨g, 0, none⟩) 1 1) ∧ w.heap.size ≤ g ∧ Row w' g 1 [(x, y - x)] ∧ Below w.heap.size w w'
theorem btw_yes (x y : Int) (w : World) (h0 : 0 ≤ x) (h : x < y) (hy : y ≤ 100000) :
    Calls Try.prog 27 #[.int .i64 x, .int .i64 y] w (BtwV w x y) := by
  have d1 : (x == y) = false := by simp; omega
  go_enter Try.func27, Try.ntmps27
  go_wp2
  go_ret
  exact ⟨_, rfl, Nat.le_refl _, row_lit w x (y - x), boxed _ _⟩

section
variable {W : World} {b : Nat} {z a : Int} {v : Value} {l : List (Int × Int)}
set_option maxHeartbeats 1000000 in
/-- The closure of next. -/
theorem next1_ok (h : MapV W b z v l) (hw : WF z l) (hz : 0 ≤ z ∧ z ≤ 65536) (bm ba : Nat) (w : World) (hb : Below W.heap.size W w) (hm : w.cell? ⟨bm, 0, none⟩ = some (.pointer (some ⟨b, 0, none⟩))) (ha : w.cell? ⟨ba, 0, none⟩ = some (.int .i64 a))
    (k : Nat) (hk : k < l.length) (q : Bool) (hq : decide (a < l[k].1 + l[k].2) = q) :
    Calls Try.prog 31 #[.int .i64 (k : Int), .pointer (some ⟨bm, 0, none⟩), .pointer (some ⟨ba, 0, none⟩)] w fun e w' => e = .returned (.bool q) ∧ Below w.heap.size w w' := by
  have h' := h.below hb
  have hlm := World.block_lt_of_cell? w _ hm
  have hla := World.block_lt_of_cell? w _ ha
  have hbl := h'.lt
  have c1 := h'.c1
  rcases h'.r with ⟨rfl, rfl⟩ | ⟨g, n, c, rfl, hn, hnc, hcm, hR⟩
  · cases hk
  have hgl := hR.lt
  obtain ⟨r0, r1⟩ := hR.is k hk
  obtain ⟨o0, o1, o2⟩ := hw.ok _ (List.getElem_mem hk)
  have hkn : k < n := by omega
  generalize l[k].1 = x at *
  generalize l[k].2 = y at *
  have e0 := fun q : Ext w => q.cell hm hlm
  have e1 := fun q : Ext w => q.cell ha hla
  have e2 := fun q : Ext w => q.cell c1 hbl
  have e3 := fun q : Ext w => q.cell r0 hgl
  have e4 := fun q : Ext w => q.cell r1 hgl
  have CE := Lib.hid (Ext.calls (W := w) fun w' _ => end_ok x y w' o0 (by omega) (by omega))
  have HQ := Lib.hid hq
  clear h h' hw hb hm ha r0 r1 c1 hR hn hq hlm hla hbl hgl
  go_enter Try.func31, Try.ntmps31
  go_wp2_with fail
  haveI hne : Nonempty (Ext w) := Ext.some w
  refine wp_region_family (Ext.v (W := w)) (by kernel_rfl) (by kernel_rfl) ⟨⟨_, (Below.refl _ w).drew⟩, rfl⟩ ?_
  repeat (go_big_quiet_step (first | (go_at_call 25; exact CE.out _)))
  refine wpQuiet_nil ?_
  rintro w7 ⟨⟨w8, h8⟩, rfl⟩
  go_wp2
  go_ret
  exact ⟨by rw [← HQ.out]; rfl, h8⟩

set_option maxHeartbeats 1000000 in
/-- sort.Search with next's closure: where the answers turn. -/
theorem search_ok (w : World) (bm ba N K : Nat) (hK : K ≤ N) (hN : N ≤ 1000000)
    (hF : ∀ u, Below w.heap.size w u → ∀ j, j < N → Calls Try.prog 31 #[.int .i64 (j : Int), .pointer (some ⟨bm, 0, none⟩), .pointer (some ⟨ba, 0, none⟩)] u fun e w' => e = .returned (.bool (decide (K ≤ j))) ∧ Below u.heap.size u w') :
    Calls Try.prog 30 #[.int .i64 (N : Int), .func (.func 31) #[] #[.pointer (some ⟨bm, 0, none⟩), .pointer (some ⟨ba, 0, none⟩)]] w fun e w' => e = .returned (.int .i64 (K : Int)) ∧ Below w.heap.size w w' := by
  have HF := Lib.hid hF
  clear hF
  go_enter Try.func30, Try.ntmps30
  go_wp2_with fail
  go_loopw [5, 6] (fun i j wr => ∃ I J : Nat, I ≤ K ∧ K ≤ J ∧ J ≤ N ∧ i = .int .i64 (I : Int) ∧ j = .int .i64 (J : Int) ∧ Hid (Below w.heap.size w wr)) (fun i j _ => (intOf j - intOf i).toNat)
  case atStart => exact ⟨0, N, Nat.zero_le _, hK, Nat.le_refl _, rfl, rfl, Lib.hid (Below.refl _ _)⟩
  case round =>
    obtain ⟨I, J, hI, hJ, hJN, rfl, rfl, HW⟩ := hrel
    by_cases hlt : I < J
    · obtain ⟨h, hh⟩ : ∃ h : Nat, (I + J) / 2 = h := ⟨_, rfl⟩
      have h0 : I ≤ h := by omega
      have h1 : h < J := by omega
      have e2 : ((I : Int) + (J : Int)) / 2 = (h : Int) := by omega
      have HE := Lib.hid e2
      have HC := Lib.hid (HF.out wr HW.out h (by omega))
      clear e2 hh
      by_cases hKh : K ≤ h
      · rw [decide_eq_true hKh] at HC
        go_wp2_with fail
        rw [HE.out]
        refine HC.out.mono ?_
        rintro e w1 ⟨rfl, b1⟩
        go_wp2
        go_roundw
        case rel => exact ⟨I, h, hI, hKh, by omega, rfl, rfl, Lib.hid (HW.out.trans (b1.mono HW.out.size))⟩
        case measure => simp [intOf]; omega
      · rw [decide_eq_false hKh] at HC
        go_wp2_with fail
        rw [HE.out]
        refine HC.out.mono ?_
        rintro e w1 ⟨rfl, b1⟩
        go_wp2
        go_roundw
        case rel => exact ⟨h + 1, J, by omega, hJ, hJN, by go_num, rfl, Lib.hid (HW.out.trans (b1.mono HW.out.size))⟩
        case measure => simp [intOf]; omega
    · obtain rfl : I = K := by omega
      go_wp2
      go_ret
      exact ⟨rfl, HW.out⟩

/-- How many runs end by a sector. -/
theorem next_ok {B : Nat} {x : Nat → Prop} {w : World} {b : Nat} {z a : Int} {l l1 l2 : List (Int × Int)} (h : MapIn B x w b z l) (hw : WF z l) (hz : 0 ≤ z ∧ z ≤ 65536) (hc : Cut l l1 l2 a) (k : Nat) (hk : l1.length = k) :
    Calls Try.prog 24 #[.pointer (some ⟨b, 0, none⟩), .int .i64 a] w fun e w' => e = .returned (.int .i64 (k : Int)) ∧ Below w.heap.size w w' := by
  obtain ⟨v, h⟩ := h
  have hl := h.mv.lt
  have c1 := h.mv.c1
  have hsum := hw.sum hz.1
  obtain ⟨aa, n, c, rfl, hn⟩ : ∃ aa n c, v = .slice aa n c ∧ l.length = n := by
    rcases h.mv.r with ⟨rfl, rfl⟩ | ⟨g, n, c, rfl, hn, _⟩
    · exact ⟨_, _, _, rfl, rfl⟩
    · exact ⟨_, _, _, rfl, hn⟩
  have hkn : k ≤ n := by rw [← hn, hc.eq, List.length_append]; omega
  have hS : ∀ W, Below w.heap.size w W → W.cell? ⟨w.heap.size, 0, none⟩ = some (.pointer (some ⟨b, 0, none⟩)) → W.cell? ⟨w.heap.size + 1, 0, none⟩ = some (.int .i64 a) → 
      Calls Try.prog 30 #[.int .i64 (n : Int), .func (.func 31) #[] #[.pointer (some ⟨w.heap.size, 0, none⟩), .pointer (some ⟨w.heap.size + 1, 0, none⟩)]] W fun e w' => e = .returned (.int .i64 (k : Int)) ∧ Below W.heap.size W w' := fun W bW m0 m1 => by
    have l0 := World.block_lt_of_cell? W _ m0
    have l1' := World.block_lt_of_cell? W _ m1
    refine search_ok W _ _ n k hkn (by omega) fun u bu j hj => ?_
    refine next1_ok (h.mv.below bW) hw hz _ _ u bu ((bu.cell (p := ⟨w.heap.size, 0, none⟩) l0).trans m0) ((bu.cell (p := ⟨w.heap.size + 1, 0, none⟩) l1').trans m1) j (by omega) _ ?_
    subst hk
    by_cases hjk : l1.length ≤ j
    · rw [decide_eq_true hjk]
      have := hc.hi (l[j]'(by omega)) (by
        have e : l[j]'(by omega) = l2[j - l1.length]'(by have := hc.eq; rw [← hn, this, List.length_append] at hj; omega) := by
          have := hc.eq
          subst this
          rw [List.getElem_append_right hjk]
        rw [e]; exact List.getElem_mem _)
      exact decide_eq_true this
    · rw [decide_eq_false hjk]
      have := hc.lo (l[j]'(by omega)) (by
        have e : l[j]'(by omega) = l1[j]'(by omega) := by
          have := hc.eq
          subst this
          rw [List.getElem_append_left (by omega)]
        rw [e]; exact List.getElem_mem _)
      exact decide_eq_false (by omega)
  have HS := Lib.hid hS
  clear hS h hw hz hc hk hn hsum hkn
  have b2 : Below w.heap.size w ((w.alloc (.cells #[.pointer (some ⟨b, 0, none⟩)] 24)).alloc (.cells #[.int .i64 a] 3)) := next (boxed _ _) (boxed _ _)
  have HB := Lib.hid b2
  clear b2
  go_enter Try.func24, Try.ntmps24
  go_wp2_with fail
  refine (HS.out _ HB.out (by simp) (by simp)).mono ?_
  rintro e w1 ⟨rfl, b1⟩
  go_wp2
  go_ret
  exact ⟨rfl, next HB.out b1⟩
end
end Go.Proofs.Ytoiiaacjpobaeaa
