/-
  The walk of polderlaw02.FletchWords: it returns true, and writes nothing that was there.
-/
import Derived.Test.YtomdfgfappoiiaaFrow
import Derived.Test.YtomdfgfappoiiaaFm4
import Derived.Test.YtomdfgfappoiiaaFsum
import Derived.StillTailTactics
import Derived.Laws.BitsAllLaws
namespace Go.Proofs.Ytomdfgfappoiiaa
open Go.RowKit M

/-- What FletchWords holds fast: the bytes b, the sum that was, what was there at first. -/
structure WK (w0 : World) (g : Nat) (l : List UInt8) (d : Nat) (r : Q) (w : World) : Prop where
  row : RowB w g l
  was : HoldsQ w d r
  lt : d < w.heap.size
  below : Below w0.heap.size w0 w
theorem WK.next {w0 w w' : World} {g d : Nat} {l : List UInt8} {r : Q} (h : WK w0 g l d r w) (hb : Below w.heap.size w w') : WK w0 g l d r w' :=
  ⟨h.row.below hb h.row.lt, h.was.below hb h.lt, Nat.lt_of_lt_of_le h.lt hb.size, early2 h.below hb⟩
theorem WK.drew {w0 w : World} {g d : Nat} {l : List UInt8} {r : Q} (h : WK w0 g l d r w) : WK w0 g l d r w.drew := h.next (Below.refl _ _).drew
/-- The worlds that do. -/
structure WF (w0 : World) (g : Nat) (l : List UInt8) (d : Nat) (r : Q) where
  v : World
  h : WK w0 g l d r v
/-- The bytes c beside them. -/
structure WK2 (w0 : World) (g : Nat) (l : List UInt8) (d : Nat) (r : Q) (gc : Nat) (lc : List UInt8) (w : World) : Prop where
  one : WK w0 g l d r w
  row : RowB w gc lc
theorem WK2.next {w0 w w' : World} {g d gc : Nat} {l lc : List UInt8} {r : Q} (h : WK2 w0 g l d r gc lc w) (hb : Below w.heap.size w w') : WK2 w0 g l d r gc lc w' := ⟨h.one.next hb, h.row.below hb h.row.lt⟩
theorem WK2.drew {w0 w : World} {g d gc : Nat} {l lc : List UInt8} {r : Q} (h : WK2 w0 g l d r gc lc w) : WK2 w0 g l d r gc lc w.drew := h.next (Below.refl _ _).drew
theorem WK2.put {w0 w : World} {g d gc : Nat} {l lc : List UInt8} {r : Q} (h : WK2 w0 g l d r gc lc w) (hg : gc ≠ g) (hd : gc ≠ d) (h0 : w0.heap.size ≤ gc) (o : Nat) (c : List UInt8) (hc : o + c.length ≤ lc.length) :
    WK2 w0 g l d r gc (lc.take o ++ (c ++ lc.drop (o + c.length))) (w.setCells gc o (cellsB c)) :=
  ⟨⟨h.one.row.other (Ne.symm hg) _, h.one.was.setCells (Ne.symm hd) _, by rw [setCells_size]; exact h.one.lt, h.one.below.trans (below_setCells gc _ h0 _ _ _)⟩, h.row.setCells o c hc⟩
/-- The worlds that hold all of it. -/
structure WF2 (w0 : World) (g : Nat) (l : List UInt8) (d : Nat) (r : Q) (gc : Nat) (lc : List UInt8) where
  v : World
  h : WK2 w0 g l d r gc lc v
theorem WK.set {w0 w : World} {g d : Nat} {l : List UInt8} {r : Q} (h : WK w0 g l d r w) (hgd : g < d) (h0 : w0.heap.size ≤ g) (j : Nat) (hj : j < l.length) (b : UInt8) : WK w0 g (l.set j b) d r (w.setCell ⟨g, j, none⟩ (.int .u8 (b.toNat : Int))).drew :=
  WK.drew ⟨h.row.set j hj b, h.was.setRow (by omega) _, by simp [World.setCell]; exact h.lt, h.below.setCell (p := ⟨g, j, none⟩) h0 _⟩
theorem xorB_bits (o : UInt8) (m : Nat) : bits BinOp.xor IntKind.u8 (o.toNat : Int) (IntKind.u8.wrap (m : Int)) = ((xorB o m).toNat : Int) := by
  have e : IntKind.u8.wrap (m : Int) = ((m % 256 : Nat) : Int) := by rw [IntKind.wrap_u8]; omega
  rw [e, u8_xor_nat _ _ (UInt8.toNat_lt o) (Nat.mod_lt _ (by decide)), xorB, UInt8.toNat_xor]
  congr 2
  simp
theorem eq4_ne {p q : Q} (h : p ≠ q) : eq4 p.a p.b p.c p.d q.a q.b q.c q.d = false := eq4_false (fun e => h (by
  obtain ⟨h1, h2, h3, h4⟩ := e
  cases p; cases q
  simp only [Int.natCast_inj] at h1 h2 h3 h4
  subst h1 h2 h3 h4
  rfl))

set_option maxRecDepth 100000 in
set_option maxHeartbeats 8000000 in
theorem walk_FletchWords (s : ByteArray) (i k n : Int) (w : World) (hs : s.size ≤ maxLen) (w1 : (Lit.int .u16 i).wf = true) (w2 : (Lit.int .u16 k).wf = true) (w3 : (Lit.int .u32 n).wf = true) :
    Calls Try.prog 3 #[.string s, .int .u16 i, .int .u16 k, .int .u32 n] w fun e w' => e = .returned (.bool true) ∧ Below w.heap.size w w' := by
  unfold maxLen at hs
  obtain ⟨hi0, hi1⟩ : 0 ≤ i ∧ i ≤ 65535 := by simpa [Lit.wf, IntKind.min, IntKind.max, IntKind.signed, IntKind.bits] using w1
  obtain ⟨hk0, hk1⟩ : 0 ≤ k ∧ k ≤ 65535 := by simpa [Lit.wf, IntKind.min, IntKind.max, IntKind.signed, IntKind.bits] using w2
  obtain ⟨hn0, hn1⟩ : 0 ≤ n ∧ n ≤ 4294967295 := by simpa [Lit.wf, IntKind.min, IntKind.max, IntKind.signed, IntKind.bits] using w3
  clear w1 w2 w3
  by_cases hl : 3000 < s.size
  · go_enter Try.func3, Try.ntmps3
    go_wp2_with fail
    refine (awake2_any _).mono ?_
    rintro e w1 ⟨rfl, b1⟩
    go_wp2_with fail
    refine (awake2_any _).mono ?_
    rintro e w2 ⟨rfl, b2⟩
    go_wp2
    go_ret
    exact ⟨rfl, early2 b1 b2⟩
  · by_cases hl2 : s.size < 4
    · go_enter Try.func3, Try.ntmps3
      go_wp2_with fail
      refine (awake2_any _).mono ?_
      rintro e w1 ⟨rfl, b1⟩
      go_wp2_with fail
      refine (awake2_any _).mono ?_
      rintro e w2 ⟨rfl, b2⟩
      go_wp2
      go_ret
      exact ⟨rfl, early2 b1 b2⟩
    · obtain ⟨i, rfl⟩ := Int.eq_ofNat_of_zero_le hi0
      obtain ⟨k, rfl⟩ := Int.eq_ofNat_of_zero_le hk0
      obtain ⟨n, rfl⟩ := Int.eq_ofNat_of_zero_le hn0
      have hpS := fun w => pad_pos s 4 w (by omega) (by omega) (by omega)
      have hp4 := pad4_size s
      have hpl := pad4_le s
      have hpg : s.size ≤ (padK s 4).size := by rw [padK_size]; omega
      have HWB := Lib.hid (show wordsB s = wordsL (padK s 4).data.toList from rfl)
      generalize padK s 4 = p at hpS hp4 hpl hpg HWB
      obtain ⟨N, hN⟩ : ∃ N, p.size = 4 * N := ⟨p.size / 4, by omega⟩
      have hN1 : 1 ≤ N := by omega
      have hN2 : N ≤ 751 := by omega
      have hq : (p.size : Int) / 4 = (N : Int) := by rw [hN]; omega
      have HN := Lib.hid hN
      have HPS := Lib.hid hpS
      clear hpS hp4 hpl hpg hN
      obtain ⟨I, hI⟩ : ∃ I, i % N = I := ⟨_, rfl⟩
      obtain ⟨J, hJ⟩ : ∃ J, k % N = J := ⟨_, rfl⟩
      have hIN : I < N := by rw [← hI]; exact Nat.mod_lt _ hN1
      have hJN : J < N := by rw [← hJ]; exact Nat.mod_lt _ hN1
      obtain ⟨X, hX⟩ : ∃ X, 4 * I = X := ⟨_, rfl⟩
      obtain ⟨Y, hY⟩ : ∃ Y, 4 * J = Y := ⟨_, rfl⟩
      have hmi : (i : Int) % (N : Int) = (I : Int) := by rw [← hI]; rfl
      have hmk : (k : Int) % (N : Int) = (J : Int) := by rw [← hJ]; rfl
      have hxi : 4 * (I : Int) = (X : Int) := by omega
      have hyi : 4 * (J : Int) = (Y : Int) := by omega
      have HX := Lib.hid hX
      have HY := Lib.hid hY
      clear hI hJ hX hY
      have hcv := conv_to
      have hg := sum_guard
      have heq := sum_equal
      go_enter Try.func3, Try.ntmps3
      go_wp2_with fail
      refine (awake2_any _).mono ?_
      rintro e w1 ⟨rfl, c1⟩
      go_wp2_with fail
      refine (HPS.out _).mono ?_
      rintro e w2 ⟨rfl, b2⟩
      have c2 := early2 c1 b2
      clear c1 b2
      go_wp2_with fail
      have hr3 := bytesW_row w2 p
      have c3 := early2 c2 (bytesW_below w2 p)
      have hcap := grownCap_ge w2 p.size 0 5
      have hcap2 := grownCap_le_maxLen w2 p.size 0 5 (by unfold maxLen; rw [HN.out]; omega)
      unfold maxLen at hcap2
      have hg0 : w.heap.size ≤ w2.heap.size := c2.size
      generalize bytesW w2 p = w3 at hr3 c3
      generalize grownCap w2 p.size 0 5 = cap at hcap hcap2
      generalize w2.heap.size = g at hr3 hg0
      clear c2
      refine (sum_any s _ (by omega)).mono ?_
      rintro e w4 ⟨rfl, b4⟩
      have c4 := early2 c3 b4
      have hr4 := hr3.below b4 hr3.lt
      have hgl : g < w4.heap.size := hr4.lt
      clear c3 b4 hr3
      rw [HWB.out]
      generalize hr : sumQ zeroQ (wordsL p.data.toList) = r
      have HR := Lib.hid hr
      clear hr
      go_wp2_with fail
      have hK : WK w g p.data.toList w4.heap.size r (w4.alloc (.cells #[.int .u64 r.a, .int .u64 r.b, .int .u64 r.c, .int .u64 r.d] 29)) := ⟨hr4.below ((Below.refl _ w4).alloc (Nat.le_refl _) _) hr4.lt, HoldsQ.new w4 r 29, by simp, c4.alloc c4.size _⟩
      generalize w4.alloc (.cells #[.int .u64 r.a, .int .u64 r.b, .int .u64 r.c, .int .u64 r.d] 29) = w5 at hK
      generalize w4.heap.size = d at hK hgl
      clear c4 hr4
      have hNz : ((N : Int) == 0) = false := by rw [beq_eq_false_iff_ne]; omega
      haveI hne : Nonempty (WF w g p.data.toList d r) := ⟨⟨w5, hK⟩⟩
      refine wp_region_family (WF.v (w0 := w) (g := g) (l := p.data.toList) (d := d) (r := r)) (by kernel_rfl) (by kernel_rfl) ⟨⟨_, hK.drew⟩, rfl⟩ ?_
      repeat (go_big_quiet_step (fail))
      refine wpQuiet_nil ?_
      rintro w6 ⟨⟨w6', hK6⟩, rfl⟩
      clear hK
      clear hmi hmk hxi hyi hq hne hNz
      have hXp : X + 4 ≤ p.size := by rw [HN.out, ← HX.out]; omega
      have hYp : Y + 4 ≤ p.size := by rw [HN.out, ← HY.out]; omega
      have hpb : p.size ≤ 3004 := by rw [HN.out]; omega
      go_wp2_with fail
      have i1 : IntKind.i64.wrap ((X : Int) + 4) = (X : Int) + 4 := by rw [IntKind.wrap_i64]; omega
      have i2 : (0 : Int) ≤ (X : Int) + 4 := by omega
      have i3 : (X : Int) + 4 ≤ (cap : Int) := by omega
      have i4 : (X : Int) ≤ (X : Int) + 4 := by omega
      have i5 : ((X : Int) + 4).toNat = X + 4 := by omega
      have j1 : IntKind.i64.wrap ((Y : Int) + 4) = (Y : Int) + 4 := by rw [IntKind.wrap_i64]; omega
      have j2 : (0 : Int) ≤ (Y : Int) + 4 := by omega
      have j3 : (Y : Int) + 4 ≤ (cap : Int) := by omega
      have j4 : (Y : Int) ≤ (Y : Int) + 4 := by omega
      have j5 : ((Y : Int) + 4).toNat = Y + 4 := by omega
      have i6 : ¬ cap ≤ X := by omega
      have j6 : ¬ cap ≤ Y := by omega
      haveI hne : Nonempty (WF w g p.data.toList d r) := ⟨⟨w6, hK6⟩⟩
      obtain ⟨lX, hlX⟩ : ∃ lX, (p.data.toList.drop X).take 4 = lX := ⟨_, rfl⟩
      obtain ⟨lY, hlY⟩ : ∃ lY, (p.data.toList.drop Y).take 4 = lY := ⟨_, rfl⟩
      have hlen : p.data.toList.length = p.size := (size_list p).symm
      have hl4X : lX.length = 4 := by rw [← hlX, List.length_take, List.length_drop]; omega
      have hl4Y : lY.length = 4 := by rw [← hlY, List.length_take, List.length_drop]; omega
      have hcx : ∀ z : WF w g p.data.toList d r, (convert 25 9 (.slice (some ⟨g, X, none⟩) 4 (cap - X))).run Try.prog z.v = .ok (.string ⟨lX.toArray⟩) z.v := fun z => by rw [← hlX]; exact conv_from z.v g _ z.h.row X 4 _ (by omega)
      have hcy : ∀ z : WF w g p.data.toList d r, (convert 25 9 (.slice (some ⟨g, Y, none⟩) 4 (cap - Y))).run Try.prog z.v = .ok (.string ⟨lY.toArray⟩) z.v := fun z => by rw [← hlY]; exact conv_from z.v g _ z.h.row Y 4 _ (by omega)
      have HLX := Lib.hid hlX
      have HLY := Lib.hid hlY
      have HL4X := Lib.hid hl4X
      have HL4Y := Lib.hid hl4Y
      have HLEN := Lib.hid hlen
      clear hlX hlY hl4X hl4Y hlen
      obtain ⟨BX, hBX⟩ : ∃ B : ByteArray, ⟨lX.toArray⟩ = B := ⟨_, rfl⟩
      obtain ⟨BY, hBY⟩ : ∃ B : ByteArray, ⟨lY.toArray⟩ = B := ⟨_, rfl⟩
      rw [hBX] at hcx
      rw [hBY] at hcy
      have HBX := Lib.hid hBX
      have HBY := Lib.hid hBY
      clear hBX hBY
      by_cases hxy : BX = BY
      · have hbb : (BX.toList != BY.toList) = false := by rw [hxy]; simp
        refine wp_region_family (WF.v (w0 := w) (g := g) (l := p.data.toList) (d := d) (r := r)) (by kernel_rfl) (by kernel_rfl) ⟨⟨_, hK6.drew⟩, rfl⟩ ?_
        repeat (go_big_quiet_step (fail))
        refine wpQuiet_nil ?_
        rintro w7 ⟨⟨w7', hK7⟩, rfl⟩
        clear hK6 hcx hcy hne i1 i2 i3 i4 i5 i6 j1 j2 j3 j4 j5 j6
        clear hbb hxy
        go_wp2_with fail
        obtain ⟨l0, hl0⟩ : ∃ l, p.data.toList = l := ⟨_, rfl⟩
        rw [hl0] at hK7
        have hll : l0.length = p.size := by rw [← hl0]; exact HLEN.out
        have HL0 := Lib.hid hl0
        clear hl0
        have hK0 := hK7
        clear hK7
        refine wp_loop_rounds 5 ?_
        rw [rounds_succ]
        have hb0 : X < l0.length := by omega
        have cc := hK0.row.c (X) hb0
        have ff := hK0.row.f (X) hb0
        have ob : l0[X].toNat < 256 := UInt8.toNat_lt _
        generalize ho0 : l0[X] = o0 at cc ob
        have HO0 := Lib.hid ho0
        clear ho0
        have a1 : IntKind.i64.wrap ((X : Int)) = (X : Int) := by rw [IntKind.wrap_i64]; omega
        have a2 : (0 : Int) ≤ (X : Int) := by omega
        have a3 : (X : Int) < (p.size : Int) := by omega
        have a4 : ((X : Int)).toNat = X := by omega
        have a5 : IntKind.i64.wrap 0 = 0 := by decide
        go_wp2_with fail
        refine wp_region_still_tail 13 (by kernel_rfl) (by kernel_rfl) ?_
        simp only [List.take_succ_cons, List.take_zero, List.drop_succ_cons, List.drop_zero]
        repeat still_step
        refine wpStill_nil ?_
        have hv : bits BinOp.xor IntKind.u8 (o0.toNat : Int) (IntKind.u8.wrap ((n : Int))) = ((xorB o0 (n)).toNat : Int) := by
          have e : ((n : Int) : Int) = ((n : Nat) : Int) := by omega
          rw [e]; exact xorB_bits o0 _
        rw [hv]
        clear hv
        generalize hv0 : xorB o0 (n) = v0
        have HV0 := Lib.hid hv0
        clear hv0 ob
        go_wp2_with fail
        have hK1 := hK0.set hgl hg0 (X) hb0 v0
        generalize (w7.setCell ⟨g, X, none⟩ (.int .u8 (v0.toNat : Int))).drew = u1 at hK1
        obtain ⟨l1, hl1⟩ : ∃ l, l0.set (X) v0 = l := ⟨_, rfl⟩
        rw [hl1] at hK1
        have hll1 : l1.length = p.size := by rw [← hl1, List.length_set]; omega
        have HL1 := Lib.hid hl1
        clear hl1 hK0 cc ff a1 a2 a3 a4 a5
        rw [rounds_succ]
        have hb1 : X + 1 < l1.length := by omega
        have cc := hK1.row.c (X + 1) hb1
        have ff := hK1.row.f (X + 1) hb1
        have ob : l1[X + 1].toNat < 256 := UInt8.toNat_lt _
        generalize ho1 : l1[X + 1] = o1 at cc ob
        have HO1 := Lib.hid ho1
        clear ho1
        have a1 : IntKind.i64.wrap ((X : Int) + 1) = (X : Int) + 1 := by rw [IntKind.wrap_i64]; omega
        have a2 : (0 : Int) ≤ (X : Int) + 1 := by omega
        have a3 : (X : Int) + 1 < (p.size : Int) := by omega
        have a4 : ((X : Int) + 1).toNat = X + 1 := by omega
        have a5 : IntKind.i64.wrap 8 = 8 := by decide
        go_wp2_with fail
        refine wp_region_still_tail 13 (by kernel_rfl) (by kernel_rfl) ?_
        simp only [List.take_succ_cons, List.take_zero, List.drop_succ_cons, List.drop_zero]
        repeat still_step
        refine wpStill_nil ?_
        have hv : bits BinOp.xor IntKind.u8 (o1.toNat : Int) (IntKind.u8.wrap ((n : Int) / 256)) = ((xorB o1 (n / 256)).toNat : Int) := by
          have e : ((n : Int) / 256 : Int) = ((n / 256 : Nat) : Int) := by omega
          rw [e]; exact xorB_bits o1 _
        rw [hv]
        clear hv
        generalize hv1 : xorB o1 (n / 256) = v1
        have HV1 := Lib.hid hv1
        clear hv1 ob
        go_wp2_with fail
        have hK2 := hK1.set hgl hg0 (X + 1) hb1 v1
        generalize (u1.setCell ⟨g, X + 1, none⟩ (.int .u8 (v1.toNat : Int))).drew = u2 at hK2
        obtain ⟨l2, hl2⟩ : ∃ l, l1.set (X + 1) v1 = l := ⟨_, rfl⟩
        rw [hl2] at hK2
        have hll2 : l2.length = p.size := by rw [← hl2, List.length_set]; omega
        have HL2 := Lib.hid hl2
        clear hl2 hK1 cc ff a1 a2 a3 a4 a5
        rw [rounds_succ]
        have hb2 : X + 2 < l2.length := by omega
        have cc := hK2.row.c (X + 2) hb2
        have ff := hK2.row.f (X + 2) hb2
        have ob : l2[X + 2].toNat < 256 := UInt8.toNat_lt _
        generalize ho2 : l2[X + 2] = o2 at cc ob
        have HO2 := Lib.hid ho2
        clear ho2
        have a1 : IntKind.i64.wrap ((X : Int) + 2) = (X : Int) + 2 := by rw [IntKind.wrap_i64]; omega
        have a2 : (0 : Int) ≤ (X : Int) + 2 := by omega
        have a3 : (X : Int) + 2 < (p.size : Int) := by omega
        have a4 : ((X : Int) + 2).toNat = X + 2 := by omega
        have a5 : IntKind.i64.wrap 16 = 16 := by decide
        go_wp2_with fail
        refine wp_region_still_tail 13 (by kernel_rfl) (by kernel_rfl) ?_
        simp only [List.take_succ_cons, List.take_zero, List.drop_succ_cons, List.drop_zero]
        repeat still_step
        refine wpStill_nil ?_
        have hv : bits BinOp.xor IntKind.u8 (o2.toNat : Int) (IntKind.u8.wrap ((n : Int) / 65536)) = ((xorB o2 (n / 65536)).toNat : Int) := by
          have e : ((n : Int) / 65536 : Int) = ((n / 65536 : Nat) : Int) := by omega
          rw [e]; exact xorB_bits o2 _
        rw [hv]
        clear hv
        generalize hv2 : xorB o2 (n / 65536) = v2
        have HV2 := Lib.hid hv2
        clear hv2 ob
        go_wp2_with fail
        have hK3 := hK2.set hgl hg0 (X + 2) hb2 v2
        generalize (u2.setCell ⟨g, X + 2, none⟩ (.int .u8 (v2.toNat : Int))).drew = u3 at hK3
        obtain ⟨l3, hl3⟩ : ∃ l, l2.set (X + 2) v2 = l := ⟨_, rfl⟩
        rw [hl3] at hK3
        have hll3 : l3.length = p.size := by rw [← hl3, List.length_set]; omega
        have HL3 := Lib.hid hl3
        clear hl3 hK2 cc ff a1 a2 a3 a4 a5
        rw [rounds_succ]
        have hb3 : X + 3 < l3.length := by omega
        have cc := hK3.row.c (X + 3) hb3
        have ff := hK3.row.f (X + 3) hb3
        have ob : l3[X + 3].toNat < 256 := UInt8.toNat_lt _
        generalize ho3 : l3[X + 3] = o3 at cc ob
        have HO3 := Lib.hid ho3
        clear ho3
        have a1 : IntKind.i64.wrap ((X : Int) + 3) = (X : Int) + 3 := by rw [IntKind.wrap_i64]; omega
        have a2 : (0 : Int) ≤ (X : Int) + 3 := by omega
        have a3 : (X : Int) + 3 < (p.size : Int) := by omega
        have a4 : ((X : Int) + 3).toNat = X + 3 := by omega
        have a5 : IntKind.i64.wrap 24 = 24 := by decide
        go_wp2_with fail
        refine wp_region_still_tail 13 (by kernel_rfl) (by kernel_rfl) ?_
        simp only [List.take_succ_cons, List.take_zero, List.drop_succ_cons, List.drop_zero]
        repeat still_step
        refine wpStill_nil ?_
        have hv : bits BinOp.xor IntKind.u8 (o3.toNat : Int) (IntKind.u8.wrap ((n : Int) / 16777216)) = ((xorB o3 (n / 16777216)).toNat : Int) := by
          have e : ((n : Int) / 16777216 : Int) = ((n / 16777216 : Nat) : Int) := by omega
          rw [e]; exact xorB_bits o3 _
        rw [hv]
        clear hv
        generalize hv3 : xorB o3 (n / 16777216) = v3
        have HV3 := Lib.hid hv3
        clear hv3 ob
        go_wp2_with fail
        have hK4 := hK3.set hgl hg0 (X + 3) hb3 v3
        generalize (u3.setCell ⟨g, X + 3, none⟩ (.int .u8 (v3.toNat : Int))).drew = u4 at hK4
        obtain ⟨l4, hl4⟩ : ∃ l, l3.set (X + 3) v3 = l := ⟨_, rfl⟩
        rw [hl4] at hK4
        have hll4 : l4.length = p.size := by rw [← hl4, List.length_set]; omega
        have HL4 := Lib.hid hl4
        clear hl4 hK3 cc ff a1 a2 a3 a4 a5
        rw [rounds_succ]
        go_wp2_with fail
        obtain ⟨T, hT⟩ : ∃ T : ByteArray, ⟨l4.toArray⟩ = T := ⟨_, rfl⟩
        have hTl : T.data.toList = l4 := by rw [← hT]
        have hTs : T.size = p.size := by rw [size_list, hTl]; exact hll4
        have hcT : ∀ z : WF w g l4 d r, (convert 25 9 (.slice (some ⟨g, 0, none⟩) p.size cap)).run Try.prog z.v = .ok (.string T) z.v := fun z => by
          have := conv_from z.v g l4 z.h.row 0 p.size cap (by omega)
          rw [List.drop_zero, List.take_of_length_le (by omega), hT] at this
          exact this
        have hwT : wordsB T = wordsL l4 := by rw [wordsB, pad4_same T (by rw [hTs, HN.out]; omega), hTl]
        have hput : l4 = put4 l0 I [xorB o0 n, xorB o1 (n / 256), xorB o2 (n / 65536), xorB o3 (n / 16777216)] := by
          rw [HV0.out, HV1.out, HV2.out, HV3.out, put4, HX.out, ← set4 l0 X v0 v1 v2 v3 (by omega), HL1.out, HL2.out, HL3.out, HL4.out]
        have ho4 : (l0.drop (4 * I)).take 4 = [o0, o1, o2, o3] := by
          have q0 := HO0.out
          have q1 := HO1.out
          have q2 := HO2.out
          have q3 := HO3.out
          have e1 : l1[X + 1]'(by omega) = l0[X + 1]'(by omega) := by
            have : l1[X + 1]? = l0[X + 1]? := by rw [← HL1.out, List.getElem?_set_ne (by omega)]
            rw [List.getElem?_eq_getElem (by omega), List.getElem?_eq_getElem (by omega)] at this
            exact Option.some.inj this
          have e2 : l2[X + 2]'(by omega) = l0[X + 2]'(by omega) := by
            have : l2[X + 2]? = l0[X + 2]? := by rw [← HL2.out, List.getElem?_set_ne (by omega), ← HL1.out, List.getElem?_set_ne (by omega)]
            rw [List.getElem?_eq_getElem (by omega), List.getElem?_eq_getElem (by omega)] at this
            exact Option.some.inj this
          have e3 : l3[X + 3]'(by omega) = l0[X + 3]'(by omega) := by
            have : l3[X + 3]? = l0[X + 3]? := by rw [← HL3.out, List.getElem?_set_ne (by omega), ← HL2.out, List.getElem?_set_ne (by omega), ← HL1.out, List.getElem?_set_ne (by omega)]
            rw [List.getElem?_eq_getElem (by omega), List.getElem?_eq_getElem (by omega)] at this
            exact Option.some.inj this
          rw [HX.out, four_at l0 X (by omega), q0, ← e1, q1, ← e2, q2, ← e3, q3]
        have HC : Hid (∀ z : WF w g l4 d r, Calls Try.prog 10 #[.string T] z.v fun e w' => e = .returned (.agg #[.int .u64 (sumQ zeroQ (wordsL l4)).a, .int .u64 (sumQ zeroQ (wordsL l4)).b, .int .u64 (sumQ zeroQ (wordsL l4)).c, .int .u64 (sumQ zeroQ (wordsL l4)).d]) ∧ ∃ y : WF w g l4 d r, w' = y.v) :=
          Lib.hid (fun z => by
            have := sum_any T z.v (by rw [hTs]; omega)
            rw [hwT] at this
            exact this.mono fun e w' ⟨he, hb⟩ => ⟨he, ⟨w', z.h.next hb⟩, rfl⟩)
        have HR0 : Hid (sumQ zeroQ (wordsL l0) = r) := Lib.hid (by rw [← HL0.out]; exact HR.out)
        have k0 := fun z : WF w g l4 d r => z.h.was.c0
        have k1 := fun z : WF w g l4 d r => z.h.was.c1
        have k2 := fun z : WF w g l4 d r => z.h.was.c2
        have k3 := fun z : WF w g l4 d r => z.h.was.c3
        haveI hne : Nonempty (WF w g l4 d r) := ⟨⟨u4, hK4⟩⟩
        have HPUT := Lib.hid hput
        have HO4 := Lib.hid ho4
        clear hput ho4 hwT hTs hTl hT
        by_cases hnz : n = 0
        · have hrr : sumQ zeroQ (wordsL l4) = r := by rw [HPUT.out, hnz, changed_eq l0 I o0 o1 o2 o3 HO4.out]; exact HR0.out
          rw [hrr] at HC
          have er : eq4 r.a r.b r.c r.d r.a r.b r.c r.d = true := eq4_true rfl rfl rfl rfl
          have hnb : ((n : Int) == 0) = true := by rw [hnz]; rfl
          clear hrr hnz
          refine wp_region_family (WF.v (w0 := w) (g := g) (l := l4) (d := d) (r := r)) (by kernel_rfl) (by kernel_rfl) ⟨⟨_, hK4.drew⟩, rfl⟩ ?_
          repeat (go_big_quiet_step ((go_at_call 10; exact HC.out _)))
          refine wpQuiet_nil ?_
          rintro w8 ⟨⟨w8', hK8⟩, rfl⟩
          go_wp2
          go_ret
          exact ⟨rfl, hK8.below⟩
        · have hrr : sumQ zeroQ (wordsL l4) ≠ r := by rw [HPUT.out, ← HR0.out]; exact changed_ne l0 I n (by rw [HX.out]; omega) (by omega) (by omega) o0 o1 o2 o3 HO4.out
          generalize sumQ zeroQ (wordsL l4) = r2 at HC hrr
          have er : eq4 r2.a r2.b r2.c r2.d r.a r.b r.c r.d = false := eq4_ne hrr
          have hnb : ((n : Int) == 0) = false := by rw [beq_eq_false_iff_ne]; omega
          clear hrr hnz
          refine wp_region_family (WF.v (w0 := w) (g := g) (l := l4) (d := d) (r := r)) (by kernel_rfl) (by kernel_rfl) ⟨⟨_, hK4.drew⟩, rfl⟩ ?_
          repeat (go_big_quiet_step ((go_at_call 10; exact HC.out _)))
          refine wpQuiet_nil ?_
          rintro w8 ⟨⟨w8', hK8⟩, rfl⟩
          go_wp2
          go_ret
          exact ⟨rfl, hK8.below⟩
      · have hbb : (BX.toList != BY.toList) = true := by
          rw [bne_iff_ne]
          intro e
          rw [Lib.toList_data, Lib.toList_data] at e
          exact hxy (ext_list e)
        have hbb2 : (BX.toList == BY.toList) = false := by simpa using hbb
        refine wp_region_family (WF.v (w0 := w) (g := g) (l := p.data.toList) (d := d) (r := r)) (by kernel_rfl) (by kernel_rfl) ⟨⟨_, hK6.drew⟩, rfl⟩ ?_
        repeat (go_big_quiet_step (fail))
        refine wpQuiet_nil ?_
        rintro w7 ⟨⟨w7', hK7⟩, rfl⟩
        clear hK6 hcx hcy hne i1 i2 i3 i4 i5 i6 j1 j2 j3 j4 j5 j6
        have hneL : lX ≠ lY := fun e => hxy (by rw [← HBX.out, ← HBY.out, e])
        have HNE := Lib.hid hneL
        clear hneL hxy hbb hbb2
        have hcp : (convert 25 9 (.slice (some ⟨g, 0, none⟩) p.size cap)).run Try.prog w7 = .ok (.string p) w7 := by
          have h1 := HLEN.out
          have := conv_from w7 g _ hK7.row 0 p.size cap (by omega)
          rw [List.drop_zero, List.take_of_length_le (by omega)] at this
          exact this
        go_wp2_with fail
        have hK8 : WK2 w g p.data.toList d r w7.heap.size p.data.toList (bytesW w7 p) := ⟨hK7.next (bytesW_below w7 p), bytesW_row w7 p⟩
        have hcap3 := grownCap_ge w7 p.size 0 5
        have hcap4 := grownCap_le_maxLen w7 p.size 0 5 (by unfold maxLen; omega)
        unfold maxLen at hcap4
        have hgc : g ≠ w7.heap.size := Nat.ne_of_lt hK7.row.lt
        have hdc : d ≠ w7.heap.size := Nat.ne_of_lt hK7.lt
        have hgc0 : w.heap.size ≤ w7.heap.size := hK7.below.size
        clear hcp hK7
        generalize bytesW w7 p = w8 at hK8
        generalize grownCap w7 p.size 0 5 = cap2 at hcap3 hcap4
        generalize w7.heap.size = gc at hK8 hgc hdc hgc0
        have hlenP : p.data.toList.length = p.size := HLEN.out
        have a1 : IntKind.i64.wrap ((X : Int) + 4) = (X : Int) + 4 := by rw [IntKind.wrap_i64]; omega
        have a2 : (0 : Int) ≤ (X : Int) + 4 := by omega
        have a3 : (X : Int) + 4 ≤ (cap2 : Int) := by omega
        have a4 : (X : Int) ≤ (X : Int) + 4 := by omega
        have a5 : ((X : Int) + 4).toNat = X + 4 := by omega
        have a6 : ¬ cap2 ≤ X := by omega
        have b1 : IntKind.i64.wrap ((Y : Int) + 4) = (Y : Int) + 4 := by rw [IntKind.wrap_i64]; omega
        have b2 : (0 : Int) ≤ (Y : Int) + 4 := by omega
        have b3 : (Y : Int) + 4 ≤ (cap : Int) := by omega
        have b4 : (Y : Int) ≤ (Y : Int) + 4 := by omega
        have b5 : ((Y : Int) + 4).toNat = Y + 4 := by omega
        have b6 : ¬ cap ≤ Y := by omega
        have hcopy : (Builtin.copy_ #[25, 25] 3 #[.slice (some ⟨gc, X, none⟩) 4 (cap2 - X), .slice (some ⟨g, Y, none⟩) 4 (cap - Y)]).run Try.prog w8.drew = .ok (.int .i64 4) (w8.drew.setCells gc X (cellsB lY)) := by
          rw [← HLY.out]
          exact copy_four w8.drew gc g X Y _ _ p.data.toList p.data.toList hK8.drew.row hK8.drew.one.row (by omega) (by omega) _
        refine wp_region_still_tail 10 (by kernel_rfl) (by kernel_rfl) ?_
        simp only [List.take_succ_cons, List.take_zero, List.drop_succ_cons, List.drop_zero]
        repeat still_step
        refine wpStill_nil ?_
        go_wp2_with fail
        clear hcopy
        clear a1 a2 a3 a4 a5 a6
        clear b1 b2 b3 b4 b5 b6
        have hK9 := hK8.drew.put (Ne.symm hgc) (Ne.symm hdc) hgc0 X lY (by rw [HL4Y.out]; omega)
        rw [HL4Y.out] at hK9
        obtain ⟨lc1, hlc1⟩ : ∃ lc1, put4 p.data.toList I lY = lc1 := ⟨_, rfl⟩
        have e1 : p.data.toList.take X ++ (lY ++ p.data.toList.drop (X + 4)) = lc1 := by rw [← hlc1, put4, HX.out]
        rw [e1] at hK9
        have hlc1l : lc1.length = p.size := by rw [← hlc1, put4_length _ _ _ HL4Y.out (by rw [HX.out]; omega)]; exact hlenP
        have HLC1 := Lib.hid hlc1
        clear e1 hlc1 hK8
        generalize w8.drew.setCells gc X (cellsB lY) = w9 at hK9
        have a1 : IntKind.i64.wrap ((Y : Int) + 4) = (Y : Int) + 4 := by rw [IntKind.wrap_i64]; omega
        have a2 : (0 : Int) ≤ (Y : Int) + 4 := by omega
        have a3 : (Y : Int) + 4 ≤ (cap2 : Int) := by omega
        have a4 : (Y : Int) ≤ (Y : Int) + 4 := by omega
        have a5 : ((Y : Int) + 4).toNat = Y + 4 := by omega
        have a6 : ¬ cap2 ≤ Y := by omega
        have b1 : IntKind.i64.wrap ((X : Int) + 4) = (X : Int) + 4 := by rw [IntKind.wrap_i64]; omega
        have b2 : (0 : Int) ≤ (X : Int) + 4 := by omega
        have b3 : (X : Int) + 4 ≤ (cap : Int) := by omega
        have b4 : (X : Int) ≤ (X : Int) + 4 := by omega
        have b5 : ((X : Int) + 4).toNat = X + 4 := by omega
        have b6 : ¬ cap ≤ X := by omega
        have hcopy : (Builtin.copy_ #[25, 25] 3 #[.slice (some ⟨gc, Y, none⟩) 4 (cap2 - Y), .slice (some ⟨g, X, none⟩) 4 (cap - X)]).run Try.prog w9.drew = .ok (.int .i64 4) (w9.drew.setCells gc Y (cellsB lX)) := by
          rw [← HLX.out]
          exact copy_four w9.drew gc g Y X _ _ lc1 p.data.toList hK9.drew.row hK9.drew.one.row (by omega) (by omega) _
        refine wp_region_still_tail 10 (by kernel_rfl) (by kernel_rfl) ?_
        simp only [List.take_succ_cons, List.take_zero, List.drop_succ_cons, List.drop_zero]
        repeat still_step
        refine wpStill_nil ?_
        go_wp2_with fail
        clear hcopy
        clear a1 a2 a3 a4 a5 a6
        clear b1 b2 b3 b4 b5 b6
        have hK10 := hK9.drew.put (Ne.symm hgc) (Ne.symm hdc) hgc0 Y lX (by rw [HL4X.out]; omega)
        rw [HL4X.out] at hK10
        obtain ⟨lc2, hlc2⟩ : ∃ lc2, put4 lc1 J lX = lc2 := ⟨_, rfl⟩
        have e2 : lc1.take Y ++ (lX ++ lc1.drop (Y + 4)) = lc2 := by rw [← hlc2, put4, HY.out]
        rw [e2] at hK10
        have hlc2l : lc2.length = p.size := by rw [← hlc2, put4_length _ _ _ HL4X.out (by rw [HY.out]; omega)]; exact hlc1l
        have HLC2 := Lib.hid hlc2
        clear e2 hlc2 hK9
        generalize w9.drew.setCells gc Y (cellsB lX) = w10 at hK10
        obtain ⟨T, hT⟩ : ∃ T : ByteArray, ⟨lc2.toArray⟩ = T := ⟨_, rfl⟩
        have hTl : T.data.toList = lc2 := by rw [← hT]
        have hTs : T.size = p.size := by rw [size_list, hTl]; exact hlc2l
        have hcT : ∀ z : WF2 w g p.data.toList d r gc lc2, (convert 25 9 (.slice (some ⟨gc, 0, none⟩) p.size cap2)).run Try.prog z.v = .ok (.string T) z.v := fun z => by
          have := conv_from z.v gc lc2 z.h.row 0 p.size cap2 (by omega)
          rw [List.drop_zero, List.take_of_length_le (by omega), hT] at this
          exact this
        have hwT : wordsB T = wordsL lc2 := by rw [wordsB, pad4_same T (by rw [hTs, HN.out]; omega), hTl]
        have HC : Hid (∀ z : WF2 w g p.data.toList d r gc lc2, Calls Try.prog 10 #[.string T] z.v fun e w' => e = .returned (.agg #[.int .u64 (sumQ zeroQ (wordsL lc2)).a, .int .u64 (sumQ zeroQ (wordsL lc2)).b, .int .u64 (sumQ zeroQ (wordsL lc2)).c, .int .u64 (sumQ zeroQ (wordsL lc2)).d]) ∧ ∃ y : WF2 w g p.data.toList d r gc lc2, w' = y.v) :=
          Lib.hid (fun z => by
            have := sum_any T z.v (by rw [hTs]; omega)
            rw [hwT] at this
            exact this.mono fun e w' ⟨he, hb⟩ => ⟨he, ⟨w', z.h.next hb⟩, rfl⟩)
        have hrr : sumQ zeroQ (wordsL lc2) ≠ r := by
          rw [← HLC2.out, ← HLC1.out, ← HR.out, ← HLX.out, ← HLY.out, ← HX.out, ← HY.out]
          exact swapped_ne p.data.toList I J (by rw [HX.out]; omega) (by rw [HY.out]; omega) (by omega) (by rw [HX.out, HY.out, HLX.out, HLY.out]; exact HNE.out)
        generalize sumQ zeroQ (wordsL lc2) = r2 at HC hrr
        have er : eq4 r2.a r2.b r2.c r2.d r.a r.b r.c r.d = false := eq4_ne hrr
        have k0 := fun z : WF2 w g p.data.toList d r gc lc2 => z.h.one.was.c0
        have k1 := fun z : WF2 w g p.data.toList d r gc lc2 => z.h.one.was.c1
        have k2 := fun z : WF2 w g p.data.toList d r gc lc2 => z.h.one.was.c2
        have k3 := fun z : WF2 w g p.data.toList d r gc lc2 => z.h.one.was.c3
        haveI hne : Nonempty (WF2 w g p.data.toList d r gc lc2) := ⟨⟨w10, hK10⟩⟩
        clear hwT hTs hTl hT hrr
        refine wp_region_family (WF2.v (w0 := w) (g := g) (l := p.data.toList) (d := d) (r := r) (gc := gc) (lc := lc2)) (by kernel_rfl) (by kernel_rfl) ⟨⟨_, hK10.drew⟩, rfl⟩ ?_
        repeat (go_big_quiet_step ((go_at_call 10; exact HC.out _)))
        refine wpQuiet_nil ?_
        rintro w7 ⟨⟨w7', hKe⟩, rfl⟩
        have hK7 := hKe.one
        clear hKe hK10 er k0 k1 k2 k3 hne HC hcT hlenP
        go_wp2_with fail
        obtain ⟨l0, hl0⟩ : ∃ l, p.data.toList = l := ⟨_, rfl⟩
        rw [hl0] at hK7
        have hll : l0.length = p.size := by rw [← hl0]; exact HLEN.out
        have HL0 := Lib.hid hl0
        clear hl0
        have hK0 := hK7
        clear hK7
        refine wp_loop_rounds 5 ?_
        rw [rounds_succ]
        have hb0 : X < l0.length := by omega
        have cc := hK0.row.c (X) hb0
        have ff := hK0.row.f (X) hb0
        have ob : l0[X].toNat < 256 := UInt8.toNat_lt _
        generalize ho0 : l0[X] = o0 at cc ob
        have HO0 := Lib.hid ho0
        clear ho0
        have a1 : IntKind.i64.wrap ((X : Int)) = (X : Int) := by rw [IntKind.wrap_i64]; omega
        have a2 : (0 : Int) ≤ (X : Int) := by omega
        have a3 : (X : Int) < (p.size : Int) := by omega
        have a4 : ((X : Int)).toNat = X := by omega
        have a5 : IntKind.i64.wrap 0 = 0 := by decide
        go_wp2_with fail
        refine wp_region_still_tail 13 (by kernel_rfl) (by kernel_rfl) ?_
        simp only [List.take_succ_cons, List.take_zero, List.drop_succ_cons, List.drop_zero]
        repeat still_step
        refine wpStill_nil ?_
        have hv : bits BinOp.xor IntKind.u8 (o0.toNat : Int) (IntKind.u8.wrap ((n : Int))) = ((xorB o0 (n)).toNat : Int) := by
          have e : ((n : Int) : Int) = ((n : Nat) : Int) := by omega
          rw [e]; exact xorB_bits o0 _
        rw [hv]
        clear hv
        generalize hv0 : xorB o0 (n) = v0
        have HV0 := Lib.hid hv0
        clear hv0 ob
        go_wp2_with fail
        have hK1 := hK0.set hgl hg0 (X) hb0 v0
        generalize (w7.setCell ⟨g, X, none⟩ (.int .u8 (v0.toNat : Int))).drew = u1 at hK1
        obtain ⟨l1, hl1⟩ : ∃ l, l0.set (X) v0 = l := ⟨_, rfl⟩
        rw [hl1] at hK1
        have hll1 : l1.length = p.size := by rw [← hl1, List.length_set]; omega
        have HL1 := Lib.hid hl1
        clear hl1 hK0 cc ff a1 a2 a3 a4 a5
        rw [rounds_succ]
        have hb1 : X + 1 < l1.length := by omega
        have cc := hK1.row.c (X + 1) hb1
        have ff := hK1.row.f (X + 1) hb1
        have ob : l1[X + 1].toNat < 256 := UInt8.toNat_lt _
        generalize ho1 : l1[X + 1] = o1 at cc ob
        have HO1 := Lib.hid ho1
        clear ho1
        have a1 : IntKind.i64.wrap ((X : Int) + 1) = (X : Int) + 1 := by rw [IntKind.wrap_i64]; omega
        have a2 : (0 : Int) ≤ (X : Int) + 1 := by omega
        have a3 : (X : Int) + 1 < (p.size : Int) := by omega
        have a4 : ((X : Int) + 1).toNat = X + 1 := by omega
        have a5 : IntKind.i64.wrap 8 = 8 := by decide
        go_wp2_with fail
        refine wp_region_still_tail 13 (by kernel_rfl) (by kernel_rfl) ?_
        simp only [List.take_succ_cons, List.take_zero, List.drop_succ_cons, List.drop_zero]
        repeat still_step
        refine wpStill_nil ?_
        have hv : bits BinOp.xor IntKind.u8 (o1.toNat : Int) (IntKind.u8.wrap ((n : Int) / 256)) = ((xorB o1 (n / 256)).toNat : Int) := by
          have e : ((n : Int) / 256 : Int) = ((n / 256 : Nat) : Int) := by omega
          rw [e]; exact xorB_bits o1 _
        rw [hv]
        clear hv
        generalize hv1 : xorB o1 (n / 256) = v1
        have HV1 := Lib.hid hv1
        clear hv1 ob
        go_wp2_with fail
        have hK2 := hK1.set hgl hg0 (X + 1) hb1 v1
        generalize (u1.setCell ⟨g, X + 1, none⟩ (.int .u8 (v1.toNat : Int))).drew = u2 at hK2
        obtain ⟨l2, hl2⟩ : ∃ l, l1.set (X + 1) v1 = l := ⟨_, rfl⟩
        rw [hl2] at hK2
        have hll2 : l2.length = p.size := by rw [← hl2, List.length_set]; omega
        have HL2 := Lib.hid hl2
        clear hl2 hK1 cc ff a1 a2 a3 a4 a5
        rw [rounds_succ]
        have hb2 : X + 2 < l2.length := by omega
        have cc := hK2.row.c (X + 2) hb2
        have ff := hK2.row.f (X + 2) hb2
        have ob : l2[X + 2].toNat < 256 := UInt8.toNat_lt _
        generalize ho2 : l2[X + 2] = o2 at cc ob
        have HO2 := Lib.hid ho2
        clear ho2
        have a1 : IntKind.i64.wrap ((X : Int) + 2) = (X : Int) + 2 := by rw [IntKind.wrap_i64]; omega
        have a2 : (0 : Int) ≤ (X : Int) + 2 := by omega
        have a3 : (X : Int) + 2 < (p.size : Int) := by omega
        have a4 : ((X : Int) + 2).toNat = X + 2 := by omega
        have a5 : IntKind.i64.wrap 16 = 16 := by decide
        go_wp2_with fail
        refine wp_region_still_tail 13 (by kernel_rfl) (by kernel_rfl) ?_
        simp only [List.take_succ_cons, List.take_zero, List.drop_succ_cons, List.drop_zero]
        repeat still_step
        refine wpStill_nil ?_
        have hv : bits BinOp.xor IntKind.u8 (o2.toNat : Int) (IntKind.u8.wrap ((n : Int) / 65536)) = ((xorB o2 (n / 65536)).toNat : Int) := by
          have e : ((n : Int) / 65536 : Int) = ((n / 65536 : Nat) : Int) := by omega
          rw [e]; exact xorB_bits o2 _
        rw [hv]
        clear hv
        generalize hv2 : xorB o2 (n / 65536) = v2
        have HV2 := Lib.hid hv2
        clear hv2 ob
        go_wp2_with fail
        have hK3 := hK2.set hgl hg0 (X + 2) hb2 v2
        generalize (u2.setCell ⟨g, X + 2, none⟩ (.int .u8 (v2.toNat : Int))).drew = u3 at hK3
        obtain ⟨l3, hl3⟩ : ∃ l, l2.set (X + 2) v2 = l := ⟨_, rfl⟩
        rw [hl3] at hK3
        have hll3 : l3.length = p.size := by rw [← hl3, List.length_set]; omega
        have HL3 := Lib.hid hl3
        clear hl3 hK2 cc ff a1 a2 a3 a4 a5
        rw [rounds_succ]
        have hb3 : X + 3 < l3.length := by omega
        have cc := hK3.row.c (X + 3) hb3
        have ff := hK3.row.f (X + 3) hb3
        have ob : l3[X + 3].toNat < 256 := UInt8.toNat_lt _
        generalize ho3 : l3[X + 3] = o3 at cc ob
        have HO3 := Lib.hid ho3
        clear ho3
        have a1 : IntKind.i64.wrap ((X : Int) + 3) = (X : Int) + 3 := by rw [IntKind.wrap_i64]; omega
        have a2 : (0 : Int) ≤ (X : Int) + 3 := by omega
        have a3 : (X : Int) + 3 < (p.size : Int) := by omega
        have a4 : ((X : Int) + 3).toNat = X + 3 := by omega
        have a5 : IntKind.i64.wrap 24 = 24 := by decide
        go_wp2_with fail
        refine wp_region_still_tail 13 (by kernel_rfl) (by kernel_rfl) ?_
        simp only [List.take_succ_cons, List.take_zero, List.drop_succ_cons, List.drop_zero]
        repeat still_step
        refine wpStill_nil ?_
        have hv : bits BinOp.xor IntKind.u8 (o3.toNat : Int) (IntKind.u8.wrap ((n : Int) / 16777216)) = ((xorB o3 (n / 16777216)).toNat : Int) := by
          have e : ((n : Int) / 16777216 : Int) = ((n / 16777216 : Nat) : Int) := by omega
          rw [e]; exact xorB_bits o3 _
        rw [hv]
        clear hv
        generalize hv3 : xorB o3 (n / 16777216) = v3
        have HV3 := Lib.hid hv3
        clear hv3 ob
        go_wp2_with fail
        have hK4 := hK3.set hgl hg0 (X + 3) hb3 v3
        generalize (u3.setCell ⟨g, X + 3, none⟩ (.int .u8 (v3.toNat : Int))).drew = u4 at hK4
        obtain ⟨l4, hl4⟩ : ∃ l, l3.set (X + 3) v3 = l := ⟨_, rfl⟩
        rw [hl4] at hK4
        have hll4 : l4.length = p.size := by rw [← hl4, List.length_set]; omega
        have HL4 := Lib.hid hl4
        clear hl4 hK3 cc ff a1 a2 a3 a4 a5
        rw [rounds_succ]
        go_wp2_with fail
        obtain ⟨T, hT⟩ : ∃ T : ByteArray, ⟨l4.toArray⟩ = T := ⟨_, rfl⟩
        have hTl : T.data.toList = l4 := by rw [← hT]
        have hTs : T.size = p.size := by rw [size_list, hTl]; exact hll4
        have hcT : ∀ z : WF w g l4 d r, (convert 25 9 (.slice (some ⟨g, 0, none⟩) p.size cap)).run Try.prog z.v = .ok (.string T) z.v := fun z => by
          have := conv_from z.v g l4 z.h.row 0 p.size cap (by omega)
          rw [List.drop_zero, List.take_of_length_le (by omega), hT] at this
          exact this
        have hwT : wordsB T = wordsL l4 := by rw [wordsB, pad4_same T (by rw [hTs, HN.out]; omega), hTl]
        have hput : l4 = put4 l0 I [xorB o0 n, xorB o1 (n / 256), xorB o2 (n / 65536), xorB o3 (n / 16777216)] := by
          rw [HV0.out, HV1.out, HV2.out, HV3.out, put4, HX.out, ← set4 l0 X v0 v1 v2 v3 (by omega), HL1.out, HL2.out, HL3.out, HL4.out]
        have ho4 : (l0.drop (4 * I)).take 4 = [o0, o1, o2, o3] := by
          have q0 := HO0.out
          have q1 := HO1.out
          have q2 := HO2.out
          have q3 := HO3.out
          have e1 : l1[X + 1]'(by omega) = l0[X + 1]'(by omega) := by
            have : l1[X + 1]? = l0[X + 1]? := by rw [← HL1.out, List.getElem?_set_ne (by omega)]
            rw [List.getElem?_eq_getElem (by omega), List.getElem?_eq_getElem (by omega)] at this
            exact Option.some.inj this
          have e2 : l2[X + 2]'(by omega) = l0[X + 2]'(by omega) := by
            have : l2[X + 2]? = l0[X + 2]? := by rw [← HL2.out, List.getElem?_set_ne (by omega), ← HL1.out, List.getElem?_set_ne (by omega)]
            rw [List.getElem?_eq_getElem (by omega), List.getElem?_eq_getElem (by omega)] at this
            exact Option.some.inj this
          have e3 : l3[X + 3]'(by omega) = l0[X + 3]'(by omega) := by
            have : l3[X + 3]? = l0[X + 3]? := by rw [← HL3.out, List.getElem?_set_ne (by omega), ← HL2.out, List.getElem?_set_ne (by omega), ← HL1.out, List.getElem?_set_ne (by omega)]
            rw [List.getElem?_eq_getElem (by omega), List.getElem?_eq_getElem (by omega)] at this
            exact Option.some.inj this
          rw [HX.out, four_at l0 X (by omega), q0, ← e1, q1, ← e2, q2, ← e3, q3]
        have HC : Hid (∀ z : WF w g l4 d r, Calls Try.prog 10 #[.string T] z.v fun e w' => e = .returned (.agg #[.int .u64 (sumQ zeroQ (wordsL l4)).a, .int .u64 (sumQ zeroQ (wordsL l4)).b, .int .u64 (sumQ zeroQ (wordsL l4)).c, .int .u64 (sumQ zeroQ (wordsL l4)).d]) ∧ ∃ y : WF w g l4 d r, w' = y.v) :=
          Lib.hid (fun z => by
            have := sum_any T z.v (by rw [hTs]; omega)
            rw [hwT] at this
            exact this.mono fun e w' ⟨he, hb⟩ => ⟨he, ⟨w', z.h.next hb⟩, rfl⟩)
        have HR0 : Hid (sumQ zeroQ (wordsL l0) = r) := Lib.hid (by rw [← HL0.out]; exact HR.out)
        have k0 := fun z : WF w g l4 d r => z.h.was.c0
        have k1 := fun z : WF w g l4 d r => z.h.was.c1
        have k2 := fun z : WF w g l4 d r => z.h.was.c2
        have k3 := fun z : WF w g l4 d r => z.h.was.c3
        haveI hne : Nonempty (WF w g l4 d r) := ⟨⟨u4, hK4⟩⟩
        have HPUT := Lib.hid hput
        have HO4 := Lib.hid ho4
        clear hput ho4 hwT hTs hTl hT
        by_cases hnz : n = 0
        · have hrr : sumQ zeroQ (wordsL l4) = r := by rw [HPUT.out, hnz, changed_eq l0 I o0 o1 o2 o3 HO4.out]; exact HR0.out
          rw [hrr] at HC
          have er : eq4 r.a r.b r.c r.d r.a r.b r.c r.d = true := eq4_true rfl rfl rfl rfl
          have hnb : ((n : Int) == 0) = true := by rw [hnz]; rfl
          clear hrr hnz
          refine wp_region_family (WF.v (w0 := w) (g := g) (l := l4) (d := d) (r := r)) (by kernel_rfl) (by kernel_rfl) ⟨⟨_, hK4.drew⟩, rfl⟩ ?_
          repeat (go_big_quiet_step ((go_at_call 10; exact HC.out _)))
          refine wpQuiet_nil ?_
          rintro w8 ⟨⟨w8', hK8⟩, rfl⟩
          go_wp2
          go_ret
          exact ⟨rfl, hK8.below⟩
        · have hrr : sumQ zeroQ (wordsL l4) ≠ r := by rw [HPUT.out, ← HR0.out]; exact changed_ne l0 I n (by rw [HX.out]; omega) (by omega) (by omega) o0 o1 o2 o3 HO4.out
          generalize sumQ zeroQ (wordsL l4) = r2 at HC hrr
          have er : eq4 r2.a r2.b r2.c r2.d r.a r.b r.c r.d = false := eq4_ne hrr
          have hnb : ((n : Int) == 0) = false := by rw [beq_eq_false_iff_ne]; omega
          clear hrr hnz
          refine wp_region_family (WF.v (w0 := w) (g := g) (l := l4) (d := d) (r := r)) (by kernel_rfl) (by kernel_rfl) ⟨⟨_, hK4.drew⟩, rfl⟩ ?_
          repeat (go_big_quiet_step ((go_at_call 10; exact HC.out _)))
          refine wpQuiet_nil ?_
          rintro w8 ⟨⟨w8', hK8⟩, rfl⟩
          go_wp2
          go_ret
          exact ⟨rfl, hK8.below⟩
end Go.Proofs.Ytomdfgfappoiiaa
