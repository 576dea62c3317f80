/-
  The walk of polderlaw02.FletchMore: it returns true, and writes nothing that was there.
-/
import Derived.Test.YtomdfgfappoiiaaFkeep
import Derived.Deep.RegionHeld3
namespace Go.Proofs.Ytomdfgfappoiiaa
open Go.RowKit M

set_option maxRecDepth 100000 in
set_option maxHeartbeats 2000000 in
theorem walk_FletchMore (s t : ByteArray) (w : World) (hs : s.size ≤ maxLen) (ht : t.size ≤ maxLen) :
    Calls Try.prog 4 #[.string s, .string t] w fun e w' => e = .returned (.bool true) ∧ Below w.heap.size w w' := by
  unfold maxLen at hs ht
  by_cases hl : 3000 < s.size ∨ 3000 < t.size
  · rcases hl with hl | hl
    · go_enter Try.func4, Try.ntmps4
      go_wp2_with fail
      refine (awake2_any _).mono ?_
      rintro e w1 ⟨rfl, b1⟩
      go_wp2_with fail
      refine (awake2_any _).mono ?_
      rintro e w2 ⟨rfl, b2⟩
      go_wp2
      go_ret
      exact ⟨rfl, early2 b1 b2⟩
    · by_cases hl2 : 3000 < s.size
      all_goals
        go_enter Try.func4, Try.ntmps4
        go_wp2_with fail
        refine (awake2_any _).mono ?_
        rintro e w1 ⟨rfl, b1⟩
        go_wp2_with fail
        refine (awake2_any _).mono ?_
        rintro e w2 ⟨rfl, b2⟩
        go_wp2
        go_ret
        exact ⟨rfl, early2 b1 b2⟩
  · obtain ⟨hl1, hl2⟩ : s.size ≤ 3000 ∧ t.size ≤ 3000 := by omega
    clear hl hs ht
    have hS4 := pad4_size s
    have hSl := pad4_le s
    have hU4 := pad4_size t
    have hUl := pad4_le t
    have hwS := wordsB_pad s
    have hwU := wordsB_pad t
    have hwST := wordsB_append (padK s 4) t hS4
    have hwSU := wordsB_append (padK s 4) (padK t 4) hS4
    rw [hwU] at hwSU
    have hpS := fun w => pad_pos s 4 w (by omega) (by omega) (by omega)
    have hpU := fun w => pad_pos t 4 w (by omega) (by omega) (by omega)
    generalize padK s 4 = S at hS4 hSl hwS hwST hwSU hpS
    generalize padK t 4 = U at hU4 hUl hwU hwSU hpU
    have HPS := Lib.hid hpS
    have HPU := Lib.hid hpU
    have HST := Lib.hid hwST
    have HSU := Lib.hid hwSU
    have HWU := Lib.hid hwU
    have H4 := Lib.hid hU4
    clear hpS hpU hwST hwSU hwS hwU hS4 hU4
    have hg := sum_guard
    have heq := sum_equal
    go_enter Try.func4, Try.ntmps4
    go_wp2_with fail
    refine (awake2_any _).mono ?_
    rintro e w1 ⟨rfl, c1⟩
    go_wp2_with fail
    refine (HPS.out _).mono ?_
    rintro e w2 ⟨rfl, b2⟩
    have c2 := early2 c1 b2
    clear c1 b2
    go_wp2_with fail
    refine (HPU.out _).mono ?_
    rintro e w3 ⟨rfl, b3⟩
    have c3 := early2 c2 b3
    clear c2 b3
    go_wp2_with fail
    refine (sum_any S _ (by omega)).mono ?_
    rintro e w4 ⟨rfl, b4⟩
    have c4 := early2 c3 b4
    clear c3 b4
    generalize hr0 : sumQ zeroQ (wordsB S) = r0
    have hok0 : r0.Ok := by rw [← hr0]; exact sumQ_ok _ _ zeroQ_ok
    have HR0 := Lib.hid hr0
    clear hr0
    go_wp2_with fail
    refine (more_any r0 U _ hok0 (by omega) H4.out).mono ?_
    rintro e w5 ⟨rfl, b5⟩
    have c5 := early2 c4 b5
    clear c4 b5
    rw [HWU.out]
    generalize hr1 : sumQ r0 (wordsB t) = r1
    have HR1 := Lib.hid hr1
    clear hr1
    go_wp2_with fail
    have hX := HoldsQ.new w5 r1 29
    have c6 := c5.alloc c5.size (.cells #[.int .u64 r1.a, .int .u64 r1.b, .int .u64 r1.c, .int .u64 r1.d] 29)
    have hbx : w.heap.size ≤ w5.heap.size := c5.size
    have hbl : w5.heap.size < (w5.alloc (.cells #[.int .u64 r1.a, .int .u64 r1.b, .int .u64 r1.c, .int .u64 r1.d] 29)).heap.size := by simp
    clear c5
    generalize w5.alloc (.cells #[.int .u64 r1.a, .int .u64 r1.b, .int .u64 r1.c, .int .u64 r1.d] 29) = w6 at hX c6 hbl
    generalize w5.heap.size = bx at hX hbx hbl
    have HC1 : Hid (∀ w9 : World, Kept w bx r1 w9 → Calls Try.prog 10 #[.string (S ++ t)] w9 fun e w' => e = .returned (.agg #[.int .u64 r1.a, .int .u64 r1.b, .int .u64 r1.c, .int .u64 r1.d]) ∧
        (w'.cell? ⟨bx, 0, none⟩ = some (.int .u64 r1.a) ∧ w'.cell? ⟨bx, 1, none⟩ = some (.int .u64 r1.b) ∧ w'.cell? ⟨bx, 2, none⟩ = some (.int .u64 r1.c) ∧ w'.cell? ⟨bx, 3, none⟩ = some (.int .u64 r1.d) ∧ Kept w bx r1 w')) := Lib.hid (fun w9 h9 => by
      have := sum_any (S ++ t) w9 (by rw [append_size]; omega)
      rw [HST.out, sumQ_append, HR0.out, HR1.out] at this
      exact this.mono fun e w' ⟨he, hb⟩ => ⟨he, (h9.next hb).holds.c0, (h9.next hb).holds.c1, (h9.next hb).holds.c2, (h9.next hb).holds.c3, h9.next hb⟩)
    have HC2 : Hid (∀ w9 : World, Kept w bx r1 w9 → Calls Try.prog 10 #[.string (S ++ U)] w9 fun e w' => e = .returned (.agg #[.int .u64 r1.a, .int .u64 r1.b, .int .u64 r1.c, .int .u64 r1.d]) ∧
        (w'.cell? ⟨bx, 0, none⟩ = some (.int .u64 r1.a) ∧ w'.cell? ⟨bx, 1, none⟩ = some (.int .u64 r1.b) ∧ w'.cell? ⟨bx, 2, none⟩ = some (.int .u64 r1.c) ∧ w'.cell? ⟨bx, 3, none⟩ = some (.int .u64 r1.d) ∧ Kept w bx r1 w')) := Lib.hid (fun w9 h9 => by
      have := sum_any (S ++ U) w9 (by rw [append_size]; omega)
      rw [HSU.out, sumQ_append, HR0.out, HR1.out] at this
      exact this.mono fun e w' ⟨he, hb⟩ => ⟨he, (h9.next hb).holds.c0, (h9.next hb).holds.c1, (h9.next hb).holds.c2, (h9.next hb).holds.c3, h9.next hb⟩)
    refine (sum_any S _ (by omega)).mono ?_
    rintro e w7 ⟨rfl, b7⟩
    rw [HR0.out]
    have hX7 := hX.below b7 hbl
    have hbl7 : bx < w7.heap.size := Nat.lt_of_lt_of_le hbl b7.size
    have c7 := early2 c6 b7
    clear c6 b7 hX hbl
    go_wp2_with fail
    by_cases ht4 : t.size % 4 = 0
    · refine (more_any r0 t _ hok0 (by omega) ht4).mono ?_
      rw [HR1.out]
      rintro e w8 ⟨rfl, b8⟩
      have hX8 := hX7.below b8 hbl7
      have hbl8 : bx < w8.heap.size := Nat.lt_of_lt_of_le hbl7 b8.size
      have c8 := early2 c7 b8
      clear c7 b8 hX7 hbl7
      have hne : ((t.size : Int) % 4 != 0) = false := by rw [bne_eq_false_iff_eq]; omega
      clear ht4
      go_wp2_with fail
      have hK := Kept.next ⟨hX8, hbl8, c8⟩ (Below.alloc (Below.refl _ w8) (Nat.le_refl _) (.cells #[.int .u64 r1.a, .int .u64 r1.b, .int .u64 r1.c, .int .u64 r1.d] 29))
      generalize w8.alloc (.cells #[.int .u64 r1.a, .int .u64 r1.b, .int .u64 r1.c, .int .u64 r1.d] 29) = w9 at hK
      clear hX8 hbl8 c8
      have hk0 := hK.holds.c0
      have hk1 := hK.holds.c1
      have hk2 := hK.holds.c2
      have hk3 := hK.holds.c3
      have ha1 : ¬ 9223372036854775807 < S.size + t.size := by omega
      have ha2 : ¬ 9223372036854775807 < S.size + U.size := by omega
      have er : eq4 r1.a r1.b r1.c r1.d r1.a r1.b r1.c r1.d = true := eq4_true rfl rfl rfl rfl
      go_region_held3 (fun w' => w'.cell? ⟨bx, 0, none⟩ = some (.int .u64 r1.a) ∧ w'.cell? ⟨bx, 1, none⟩ = some (.int .u64 r1.b) ∧ w'.cell? ⟨bx, 2, none⟩ = some (.int .u64 r1.c) ∧ w'.cell? ⟨bx, 3, none⟩ = some (.int .u64 r1.d) ∧ Kept w bx r1 w')
        (first | exact ⟨hk0, hk1, hk2, hk3, hK.drew⟩ | exact hS2 | exact hS1 | go_keep)
        (first | (go_at_call_of 10 (Value.string (S ++ t)); refine (HC1.out _ ?_).mono ?_; (first | exact hK.drew | exact hS2.2.2.2.2 | assumption); rintro e w' ⟨rfl, hS1⟩) | (go_at_call_of 10 (Value.string (S ++ U)); refine (HC2.out _ ?_).mono ?_; (first | exact hS1.2.2.2.2 | assumption); rintro e w' ⟨rfl, hS2⟩))
      go_wp2
      go_ret
      exact ⟨rfl, hS2.2.2.2.2.below⟩
    · refine (more_bad r0 t _ (by omega) (by omega)).mono ?_
      rintro e w8 ⟨rfl, b8⟩
      have hX8 := hX7.below b8 hbl7
      have hbl8 : bx < w8.heap.size := Nat.lt_of_lt_of_le hbl7 b8.size
      have c8 := early2 c7 b8
      clear c7 b8 hX7 hbl7
      have hne : ((t.size : Int) % 4 != 0) = true := by rw [bne_iff_ne]; omega
      have e0 : eq4 0 0 0 0 0 0 0 0 = true := rfl
      clear ht4
      go_wp2_with fail
      have hK := Kept.next ⟨hX8, hbl8, c8⟩ (Below.alloc (Below.refl _ w8) (Nat.le_refl _) (.cells #[.int .u64 0, .int .u64 0, .int .u64 0, .int .u64 0] 29))
      generalize w8.alloc (.cells #[.int .u64 0, .int .u64 0, .int .u64 0, .int .u64 0] 29) = w9 at hK
      clear hX8 hbl8 c8
      have hk0 := hK.holds.c0
      have hk1 := hK.holds.c1
      have hk2 := hK.holds.c2
      have hk3 := hK.holds.c3
      have ha1 : ¬ 9223372036854775807 < S.size + t.size := by omega
      have ha2 : ¬ 9223372036854775807 < S.size + U.size := by omega
      have er : eq4 r1.a r1.b r1.c r1.d r1.a r1.b r1.c r1.d = true := eq4_true rfl rfl rfl rfl
      go_region_held3 (fun w' => w'.cell? ⟨bx, 0, none⟩ = some (.int .u64 r1.a) ∧ w'.cell? ⟨bx, 1, none⟩ = some (.int .u64 r1.b) ∧ w'.cell? ⟨bx, 2, none⟩ = some (.int .u64 r1.c) ∧ w'.cell? ⟨bx, 3, none⟩ = some (.int .u64 r1.d) ∧ Kept w bx r1 w')
        (first | exact ⟨hk0, hk1, hk2, hk3, hK.drew⟩ | exact hS2 | exact hS1 | go_keep)
        (first | (go_at_call_of 10 (Value.string (S ++ t)); refine (HC1.out _ ?_).mono ?_; (first | exact hK.drew | exact hS2.2.2.2.2 | assumption); rintro e w' ⟨rfl, hS1⟩) | (go_at_call_of 10 (Value.string (S ++ U)); refine (HC2.out _ ?_).mono ?_; (first | exact hS1.2.2.2.2 | assumption); rintro e w' ⟨rfl, hS2⟩))
      go_wp2
      go_ret
      exact ⟨rfl, hS2.2.2.2.2.below⟩
end Go.Proofs.Ytomdfgfappoiiaa
