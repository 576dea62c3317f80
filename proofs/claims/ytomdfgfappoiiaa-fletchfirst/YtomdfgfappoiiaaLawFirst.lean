/-
  The walk of polderlaw02.FletchFirst: it returns true, and writes nothing that was there.
-/
import Derived.Test.YtomdfgfappoiiaaFkeep
import Derived.Test.YtomdfgfappoiiaaFm2
namespace Go.Proofs.Ytomdfgfappoiiaa
open Go.RowKit M

set_option maxRecDepth 100000 in
set_option maxHeartbeats 4000000 in
theorem walk_FletchFirst (s t : ByteArray) (w : World) (hs : s.size ≤ maxLen) (ht : t.size ≤ maxLen) :
    Calls Try.prog 7 #[.string s, .string t] w fun e w' => e = .returned (.bool true) ∧ Below w.heap.size w w' := by
  unfold maxLen at hs ht
  by_cases hl : 3000 < s.size ∨ 3000 < t.size
  · rcases hl with hl | hl
    · go_enter Try.func7, Try.ntmps7
      go_wp2_with fail
      refine (awake2_any _).mono ?_
      rintro e w1 ⟨rfl, b1⟩
      go_wp2_with fail
      refine (awake2_any _).mono ?_
      rintro e w2 ⟨rfl, b2⟩
      go_wp2
      go_ret
      exact ⟨rfl, early2 b1 b2⟩
    · by_cases hl2 : 3000 < s.size
      all_goals
        go_enter Try.func7, Try.ntmps7
        go_wp2_with fail
        refine (awake2_any _).mono ?_
        rintro e w1 ⟨rfl, b1⟩
        go_wp2_with fail
        refine (awake2_any _).mono ?_
        rintro e w2 ⟨rfl, b2⟩
        go_wp2
        go_ret
        exact ⟨rfl, early2 b1 b2⟩
  · obtain ⟨hl1, hl2⟩ : s.size ≤ 3000 ∧ t.size ≤ 3000 := by omega
    clear hl hs ht
    have hS4 := pad4_size s
    have hSl := pad4_le s
    have hT4 := pad4_size t
    have hTl := pad4_le t
    have hwST := wordsB_append (padK s 4) (padK t 4) hS4
    have hwTS := wordsB_append (padK t 4) (padK s 4) hT4
    have hpS := fun w => pad_pos s 4 w (by omega) (by omega) (by omega)
    have hpT := fun w => pad_pos t 4 w (by omega) (by omega) (by omega)
    generalize padK s 4 = S at hS4 hSl hwST hwTS hpS
    generalize padK t 4 = T at hT4 hTl hwST hwTS hpT
    have HPS := Lib.hid hpS
    have HPT := Lib.hid hpT
    have HST := Lib.hid hwST
    have HTS := Lib.hid hwTS
    clear hpS hpT hwST hwTS hS4 hT4
    have hg := sum_guard
    have heq := sum_equal
    have hat := sum_at0
    have ha1 : ¬ 9223372036854775807 < S.size + T.size := by omega
    have ha2 : ¬ 9223372036854775807 < T.size + S.size := by omega
    go_enter Try.func7, Try.ntmps7
    go_wp2_with fail
    refine (awake2_any _).mono ?_
    rintro e w1 ⟨rfl, c1⟩
    go_wp2_with fail
    refine (HPS.out _).mono ?_
    rintro e w2 ⟨rfl, b2⟩
    have c2 := early2 c1 b2
    clear c1 b2
    go_wp2_with fail
    refine (HPT.out _).mono ?_
    rintro e w3 ⟨rfl, b3⟩
    have c3 := early2 c2 b3
    clear c2 b3
    go_wp2_with fail
    refine (sum_any (S ++ T) _ (by rw [append_size]; omega)).mono ?_
    rintro e w4 ⟨rfl, b4⟩
    have c4 := early2 c3 b4
    clear c3 b4
    generalize hra : sumQ zeroQ (wordsB (S ++ T)) = ra
    have HRA := Lib.hid hra
    clear hra
    go_wp2_with fail
    refine (sum_any (T ++ S) _ (by rw [append_size]; omega)).mono ?_
    rintro e w5 ⟨rfl, b5⟩
    have c5 := early2 c4 b5
    clear c4 b5
    generalize hrb : sumQ zeroQ (wordsB (T ++ S)) = rb
    have HRB := Lib.hid hrb
    clear hrb
    go_wp2_with fail
    have hK : Kept2 w w5.heap.size ra (w5.heap.size + 1) rb ((w5.alloc (.cells #[.int .u64 ra.a, .int .u64 ra.b, .int .u64 ra.c, .int .u64 ra.d] 29)).alloc (.cells #[.int .u64 rb.a, .int .u64 rb.b, .int .u64 rb.c, .int .u64 rb.d] 29)) := by
      have h1 : Kept w w5.heap.size ra (w5.alloc (.cells #[.int .u64 ra.a, .int .u64 ra.b, .int .u64 ra.c, .int .u64 ra.d] 29)) := ⟨HoldsQ.new w5 ra 29, by simp, c5.alloc c5.size _⟩
      have h2 := HoldsQ.new (w5.alloc (.cells #[.int .u64 ra.a, .int .u64 ra.b, .int .u64 ra.c, .int .u64 ra.d] 29)) rb 29
      rw [World.size_alloc] at h2
      have h3 := h1.next ((Below.refl _ _).alloc (Nat.le_refl _) (.cells #[.int .u64 rb.a, .int .u64 rb.b, .int .u64 rb.c, .int .u64 rb.d] 29))
      exact ⟨h3, h2, by simp, h3.below⟩
    generalize (w5.alloc (.cells #[.int .u64 ra.a, .int .u64 ra.b, .int .u64 ra.c, .int .u64 ra.d] 29)).alloc (.cells #[.int .u64 rb.a, .int .u64 rb.b, .int .u64 rb.c, .int .u64 rb.d] 29) = w6 at hK
    generalize w5.heap.size = bx at hK
    clear c5
    have hab : ra.a = rb.a := by rw [← HRA.out, ← HRB.out, HST.out, HTS.out]; exact sum_swap _ _
    have hsum : ra.a = ((sumQ zeroQ (wordsB S)).a + (sumQ zeroQ (wordsB T)).a) % 18446744073709551616 := by rw [← HRA.out, HST.out]; exact sum_first _ _
    have HC1 : Hid (∀ x : KW2 w bx ra (bx + 1) rb, Calls Try.prog 10 #[.string S] x.v fun e w' => e = .returned (.agg #[.int .u64 (sumQ zeroQ (wordsB S)).a, .int .u64 (sumQ zeroQ (wordsB S)).b, .int .u64 (sumQ zeroQ (wordsB S)).c, .int .u64 (sumQ zeroQ (wordsB S)).d]) ∧ ∃ y : KW2 w bx ra (bx + 1) rb, w' = y.v) :=
      Lib.hid (fun x => (sum_any S x.v (by omega)).mono fun e w' ⟨he, hb⟩ => ⟨he, ⟨w', x.h.next hb⟩, rfl⟩)
    have HC2 : Hid (∀ x : KW2 w bx ra (bx + 1) rb, Calls Try.prog 10 #[.string T] x.v fun e w' => e = .returned (.agg #[.int .u64 (sumQ zeroQ (wordsB T)).a, .int .u64 (sumQ zeroQ (wordsB T)).b, .int .u64 (sumQ zeroQ (wordsB T)).c, .int .u64 (sumQ zeroQ (wordsB T)).d]) ∧ ∃ y : KW2 w bx ra (bx + 1) rb, w' = y.v) :=
      Lib.hid (fun x => (sum_any T x.v (by omega)).mono fun e w' ⟨he, hb⟩ => ⟨he, ⟨w', x.h.next hb⟩, rfl⟩)
    generalize sumQ zeroQ (wordsB S) = rs at hsum HC1
    generalize sumQ zeroQ (wordsB T) = rt at hsum HC2
    have hws : IntKind.u64.wrap ((rs.a : Int) + (rt.a : Int)) = (ra.a : Int) := by rw [wrap_add, ← hsum]
    have hB0 : ((ra.a : Int) == (rb.a : Int)) = true := by rw [hab]; exact beq_self_eq_true _
    have hB1 : ((ra.a : Int) == (ra.a : Int)) = true := beq_self_eq_true _
    have hk0 := fun x : KW2 w bx ra (bx + 1) rb => x.h.one.holds.c0
    have hk1 := fun x : KW2 w bx ra (bx + 1) rb => x.h.one.holds.c1
    have hk2 := fun x : KW2 w bx ra (bx + 1) rb => x.h.one.holds.c2
    have hk3 := fun x : KW2 w bx ra (bx + 1) rb => x.h.one.holds.c3
    have hm0 := fun x : KW2 w bx ra (bx + 1) rb => x.h.two.holds.c0
    have hm1 := fun x : KW2 w bx ra (bx + 1) rb => x.h.two.holds.c1
    have hm2 := fun x : KW2 w bx ra (bx + 1) rb => x.h.two.holds.c2
    have hm3 := fun x : KW2 w bx ra (bx + 1) rb => x.h.two.holds.c3
    haveI hne : Nonempty (KW2 w bx ra (bx + 1) rb) := ⟨⟨w6, hK⟩⟩
    clear hab hsum
    by_cases heqab : eq4 ra.a ra.b ra.c ra.d rb.a rb.b rb.c rb.d = true
    · refine wp_region_family (KW2.v (w0 := w) (b := bx) (r := ra) (d := bx + 1) (q := rb)) (by kernel_rfl) (by kernel_rfl) ⟨⟨_, hK.drew⟩, rfl⟩ ?_
      repeat (go_big_quiet_step (first | (go_at_call_of 10 (Value.string S); exact HC1.out _) | (go_at_call_of 10 (Value.string T); exact HC2.out _)))
      refine wpQuiet_nil ?_
      rintro w7 ⟨⟨w8, h8⟩, rfl⟩
      go_wp2
      go_ret
      exact ⟨rfl, h8.one.below⟩
    · have hf : eq4 ra.a ra.b ra.c ra.d rb.a rb.b rb.c rb.d = false := by simpa using heqab
      have hst3 : ((S ++ T).toList == (T ++ S).toList) = false := by
        rw [beq_eq_false_iff_ne]
        intro e
        apply heqab
        rw [Lib.toList_data, Lib.toList_data] at e
        rw [show ra = rb by rw [← HRA.out, ← HRB.out, ext_list e]]
        exact eq4_true rfl rfl rfl rfl
      have hst4 : ((S ++ T).toList != (T ++ S).toList) = true := by rw [bne, hst3]; rfl
      clear heqab
      refine wp_region_family (KW2.v (w0 := w) (b := bx) (r := ra) (d := bx + 1) (q := rb)) (by kernel_rfl) (by kernel_rfl) ⟨⟨_, hK.drew⟩, rfl⟩ ?_
      repeat (go_big_quiet_step (first | (go_at_call_of 10 (Value.string S); exact HC1.out _) | (go_at_call_of 10 (Value.string T); exact HC2.out _)))
      refine wpQuiet_nil ?_
      rintro w7 ⟨⟨w8, h8⟩, rfl⟩
      go_wp2
      go_ret
      exact ⟨rfl, h8.one.below⟩
end Go.Proofs.Ytomdfgfappoiiaa
