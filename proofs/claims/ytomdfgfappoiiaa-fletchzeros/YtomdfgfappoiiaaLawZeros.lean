/-
  The walk of polderlaw02.FletchZeros: it returns true, and writes nothing that was there.
-/
import Derived.Test.YtomdfgfappoiiaaFkeep
import Derived.Test.YtomdfgfappoiiaaFz
import Derived.Test.YtomdfgfappoiiaaOpen4
namespace Go.Proofs.Ytomdfgfappoiiaa
open Go.RowKit M

set_option maxRecDepth 100000 in
set_option maxHeartbeats 4000000 in
theorem walk_FletchZeros (s : ByteArray) (n : Int) (x y : Q) (w : World) (hs : s.size ≤ maxLen) (w1 : (Lit.int .u8 n).wf = true) (hx : x.Ok) (hy : y.Ok) :
    Calls Try.prog 6 #[.string s, .int .u8 n, .agg #[.int .u64 x.a, .int .u64 x.b, .int .u64 x.c, .int .u64 x.d], .agg #[.int .u64 y.a, .int .u64 y.b, .int .u64 y.c, .int .u64 y.d]] w fun e w' => e = .returned (.bool true) ∧ Below w.heap.size w w' := by
  unfold maxLen at hs
  obtain ⟨hn0, hn1⟩ : 0 ≤ n ∧ n ≤ 255 := by simpa [Lit.wf, IntKind.min, IntKind.max, IntKind.signed, IntKind.bits] using w1
  clear w1
  have hbe : Below w.heap.size w ((w.alloc (.cells #[.int .u64 x.a, .int .u64 x.b, .int .u64 x.c, .int .u64 x.d] 29)).alloc (.cells #[.int .u64 y.a, .int .u64 y.b, .int .u64 y.c, .int .u64 y.d] 29)) := ((Below.refl _ w).alloc (Nat.le_refl _) _).alloc (by simp) _
  by_cases hl : 3000 < s.size
  · go_enter Try.func6, Try.ntmps6
    go_wp2_with fail
    refine (awake2_any _).mono ?_
    rintro e w1 ⟨rfl, b1⟩
    go_wp2_with fail
    refine (awake2_any _).mono ?_
    rintro e w2 ⟨rfl, b2⟩
    go_wp2
    go_ret
    exact ⟨rfl, early2 (hbe.trans (b1.mono (by simp; omega))) b2⟩
  · have hK0 : Kept2 w w.heap.size x (w.heap.size + 1) y ((w.alloc (.cells #[.int .u64 x.a, .int .u64 x.b, .int .u64 x.c, .int .u64 x.d] 29)).alloc (.cells #[.int .u64 y.a, .int .u64 y.b, .int .u64 y.c, .int .u64 y.d] 29)) := by
      have h1 : Kept w w.heap.size x (w.alloc (.cells #[.int .u64 x.a, .int .u64 x.b, .int .u64 x.c, .int .u64 x.d] 29)) := ⟨HoldsQ.new w x 29, by simp, (Below.refl _ w).alloc (Nat.le_refl _) _⟩
      have h2 := HoldsQ.new (w.alloc (.cells #[.int .u64 x.a, .int .u64 x.b, .int .u64 x.c, .int .u64 x.d] 29)) y 29
      rw [World.size_alloc] at h2
      have h3 := h1.next ((Below.refl _ _).alloc (Nat.le_refl _) (.cells #[.int .u64 y.a, .int .u64 y.b, .int .u64 y.c, .int .u64 y.d] 29))
      exact ⟨h3, h2, by simp, h3.below⟩
    clear hbe
    obtain ⟨k, hk4⟩ : ∃ k : Nat, 4 * (n % 50) = ((4 * k : Nat) : Int) := ⟨(n % 50).toNat, by omega⟩
    have hk : 4 * k ≤ 200 := by omega
    have hmk := make_zeros (4 * k) (by omega)
    rw [← hk4] at hmk
    have hcv := conv_zeros (4 * k)
    have hbk := fun w : World => (Below.refl w.heap.size w).alloc (Nat.le_refl _) (.cells ((List.replicate (4 * k) (0 : Int)).map (Value.int .u8)).toArray 5)
    have hzs := sum_zeros k s
    have hzl := zeroB_size (4 * k)
    generalize zeroB (4 * k) = Z at hcv hzs hzl
    generalize ((List.replicate (4 * k) (0 : Int)).map (Value.int .u8)).toArray = zs at hmk hcv hbk
    have HZS := Lib.hid hzs
    have hzl2 : Z.size ≤ 200 := by omega
    clear hzs hzl hk4 hk
    generalize 4 * k = m at hmk hcv
    have HBK := Lib.hid hbk
    clear hbk
    go_enter Try.func6, Try.ntmps6
    go_wp2_with fail
    generalize (w.alloc (.cells #[.int .u64 x.a, .int .u64 x.b, .int .u64 x.c, .int .u64 x.d] 29)).alloc (.cells #[.int .u64 y.a, .int .u64 y.b, .int .u64 y.c, .int .u64 y.d] 29) = w0 at hK0
    refine (awake2_any _).mono ?_
    rintro e w1 ⟨rfl, b1⟩
    have hK1 := hK0.next b1
    clear b1 hK0
    have hK2 := hK1.next (HBK.out w1)
    have q0 := hK2.one.holds.c0
    have q1 := hK2.one.holds.c1
    have q2 := hK2.one.holds.c2
    have q3 := hK2.one.holds.c3
    go_wp2_with fail
    clear q0 q1 q2 q3 hK1
    generalize w1.alloc (.cells zs 5) = w2 at hK2
    refine (bytes_any x _ hx).mono ?_
    rintro e w3 ⟨rfl, b3⟩
    have hK3 := hK2.next b3
    clear hK2 b3
    rw [show w8 x.a ++ w8 x.b ++ w8 x.c ++ w8 x.d = bytesQ x from rfl]
    have hbl := bytesQ_size x
    have HRQ := Lib.hid (readQ_bytes x s hx)
    generalize hbx : bytesQ x = X at hbl HRQ
    have HBX := Lib.hid hbx
    clear hbx
    have ha1 : ¬ 9223372036854775807 < X.size + s.size := by omega
    go_wp2_with fail
    refine (new_any (X ++ s) _).mono ?_
    rintro e w4 ⟨rfl, h4, b4⟩
    go_wp2_with fail
    refine (read_ok w3.heap.size w3.heap.size (X ++ s) _ h4 (Nat.le_refl _) (by rw [append_size]; omega)).mono ?_
    rw [HRQ.out]
    rintro e w5 ⟨rfl, _, b5⟩
    have hK5 := hK3.next (b4.trans b5)
    clear hK3 b4 b5 h4
    go_wp2_with fail
    have hK6 : Kept3 w w.heap.size x (w.heap.size + 1) y w5.heap.size x (w5.alloc (.cells #[.int .u64 x.a, .int .u64 x.b, .int .u64 x.c, .int .u64 x.d] 29)) :=
      ⟨hK5.one.next ((Below.refl _ _).alloc (Nat.le_refl _) _), hK5.two.next ((Below.refl _ _).alloc (Nat.le_refl _) _), HoldsQ.new w5 x 29, by simp, hK5.one.below.alloc hK5.one.below.size _⟩
    generalize w5.alloc (.cells #[.int .u64 x.a, .int .u64 x.b, .int .u64 x.c, .int .u64 x.d] 29) = w6 at hK6
    generalize w5.heap.size = bx at hK6
    clear hK5
    have HC1 : Hid (∀ z : KW3 w w.heap.size x (w.heap.size + 1) y bx x, Calls Try.prog 10 #[.string (Z ++ s)] z.v fun e w' => e = .returned (.agg #[.int .u64 (sumQ zeroQ (wordsB s)).a, .int .u64 (sumQ zeroQ (wordsB s)).b, .int .u64 (sumQ zeroQ (wordsB s)).c, .int .u64 (sumQ zeroQ (wordsB s)).d]) ∧ ∃ y : KW3 w w.heap.size x (w.heap.size + 1) y bx x, w' = y.v) :=
      Lib.hid (fun z => by
        have := sum_any (Z ++ s) z.v (by rw [append_size]; omega)
        rw [HZS.out] at this
        exact this.mono fun e w' ⟨he, hb⟩ => ⟨he, ⟨w', z.h.next hb⟩, rfl⟩)
    have HC2 : Hid (∀ z : KW3 w w.heap.size x (w.heap.size + 1) y bx x, Calls Try.prog 10 #[.string s] z.v fun e w' => e = .returned (.agg #[.int .u64 (sumQ zeroQ (wordsB s)).a, .int .u64 (sumQ zeroQ (wordsB s)).b, .int .u64 (sumQ zeroQ (wordsB s)).c, .int .u64 (sumQ zeroQ (wordsB s)).d]) ∧ ∃ y : KW3 w w.heap.size x (w.heap.size + 1) y bx x, w' = y.v) :=
      Lib.hid (fun z => (sum_any s z.v (by omega)).mono fun e w' ⟨he, hb⟩ => ⟨he, ⟨w', z.h.next hb⟩, rfl⟩)
    have HC3 : Hid (∀ z : KW3 w w.heap.size x (w.heap.size + 1) y bx x, Calls Try.prog 13 #[.agg #[.int .u64 x.a, .int .u64 x.b, .int .u64 x.c, .int .u64 x.d]] z.v fun e w' => e = .returned (.string X) ∧ ∃ y : KW3 w w.heap.size x (w.heap.size + 1) y bx x, w' = y.v) :=
      Lib.hid (fun z => by rw [← HBX.out]; exact (bytes_any x z.v hx).mono fun e w' ⟨he, hb⟩ => ⟨he, ⟨w', z.h.next hb⟩, rfl⟩)
    have HC4 : Hid (∀ z : KW3 w w.heap.size x (w.heap.size + 1) y bx x, Calls Try.prog 13 #[.agg #[.int .u64 y.a, .int .u64 y.b, .int .u64 y.c, .int .u64 y.d]] z.v fun e w' => e = .returned (.string (bytesQ y)) ∧ ∃ y : KW3 w w.heap.size x (w.heap.size + 1) y bx x, w' = y.v) :=
      Lib.hid (fun z => (bytes_any y z.v hy).mono fun e w' ⟨he, hb⟩ => ⟨he, ⟨w', z.h.next hb⟩, rfl⟩)
    generalize sumQ zeroQ (wordsB s) = r at HC1 HC2
    have ha2 : ¬ 9223372036854775807 < Z.size + s.size := by omega
    have hg := sum_guard
    have heq := sum_equal
    have er : eq4 r.a r.b r.c r.d r.a r.b r.c r.d = true := eq4_true rfl rfl rfl rfl
    have ex : eq4 x.a x.b x.c x.d x.a x.b x.c x.d = true := eq4_true rfl rfl rfl rfl
    have hlx : ((X.size : Int) == 32) = true := by rw [hbl]; rfl
    have k0 := fun z : KW3 w w.heap.size x (w.heap.size + 1) y bx x => z.h.one.holds.c0
    have k1 := fun z : KW3 w w.heap.size x (w.heap.size + 1) y bx x => z.h.one.holds.c1
    have k2 := fun z : KW3 w w.heap.size x (w.heap.size + 1) y bx x => z.h.one.holds.c2
    have k3 := fun z : KW3 w w.heap.size x (w.heap.size + 1) y bx x => z.h.one.holds.c3
    have m0 := fun z : KW3 w w.heap.size x (w.heap.size + 1) y bx x => z.h.two.holds.c0
    have m1 := fun z : KW3 w w.heap.size x (w.heap.size + 1) y bx x => z.h.two.holds.c1
    have m2 := fun z : KW3 w w.heap.size x (w.heap.size + 1) y bx x => z.h.two.holds.c2
    have m3 := fun z : KW3 w w.heap.size x (w.heap.size + 1) y bx x => z.h.two.holds.c3
    have j0 := fun z : KW3 w w.heap.size x (w.heap.size + 1) y bx x => z.h.three.holds.c0
    have j1 := fun z : KW3 w w.heap.size x (w.heap.size + 1) y bx x => z.h.three.holds.c1
    have j2 := fun z : KW3 w w.heap.size x (w.heap.size + 1) y bx x => z.h.three.holds.c2
    have j3 := fun z : KW3 w w.heap.size x (w.heap.size + 1) y bx x => z.h.three.holds.c3
    haveI hne : Nonempty (KW3 w w.heap.size x (w.heap.size + 1) y bx x) := ⟨⟨w6, hK6⟩⟩
    by_cases hxy : x = y
    · subst hxy
      clear HC4
      have hbb : (X.toList == X.toList) = true := beq_self_eq_true _
      refine wp_region_family (KW3.v (w0 := w) (b := w.heap.size) (r := x) (d := w.heap.size + 1) (q := x) (f := bx) (p := x)) (by kernel_rfl) (by kernel_rfl) ⟨⟨_, hK6.drew⟩, rfl⟩ ?_
      repeat (go_big_quiet_step (first | (go_at_call_of 10 (Value.string (Z ++ s)); exact HC1.out _) | (go_at_call_of 10 (Value.string s); exact HC2.out _) | (go_at_call_of 13 (Value.agg #[.int .u64 x.a, .int .u64 x.b, .int .u64 x.c, .int .u64 x.d]); exact HC3.out _)))
      refine wpQuiet_nil ?_
      rintro w7 ⟨⟨w8', h8⟩, rfl⟩
      go_wp2
      go_ret
      exact ⟨rfl, h8.one.below⟩
    · have exy : eq4 x.a x.b x.c x.d y.a y.b y.c y.d = false := eq4_false (fun h => hxy (by
        obtain ⟨h1, h2, h3, h4⟩ := h
        cases x; cases y
        simp only [Int.natCast_inj] at h1 h2 h3 h4
        subst h1 h2 h3 h4
        rfl))
      have hbb : (X.toList == (bytesQ y).toList) = false := by
        rw [beq_eq_false_iff_ne]
        intro e
        rw [Lib.toList_data, Lib.toList_data, ← HBX.out] at e
        exact hxy (bytesQ_inj hx hy (ext_list e))
      clear hxy
      generalize bytesQ y = Y at HC4 hbb
      refine wp_region_family (KW3.v (w0 := w) (b := w.heap.size) (r := x) (d := w.heap.size + 1) (q := y) (f := bx) (p := x)) (by kernel_rfl) (by kernel_rfl) ⟨⟨_, hK6.drew⟩, rfl⟩ ?_
      repeat (go_big_quiet_step (first | (go_at_call_of 10 (Value.string (Z ++ s)); exact HC1.out _) | (go_at_call_of 10 (Value.string s); exact HC2.out _) | (go_at_call_of 13 (Value.agg #[.int .u64 x.a, .int .u64 x.b, .int .u64 x.c, .int .u64 x.d]); exact HC3.out _) | (go_at_call_of 13 (Value.agg #[.int .u64 y.a, .int .u64 y.b, .int .u64 y.c, .int .u64 y.d]); exact HC4.out _)))
      refine wpQuiet_nil ?_
      rintro w7 ⟨⟨w8', h8⟩, rfl⟩
      go_wp2
      go_ret
      exact ⟨rfl, h8.one.below⟩
end Go.Proofs.Ytomdfgfappoiiaa
