/-
  The walk of polderlaw02.FletchPlays: it returns true, and writes nothing that was there.
-/
import Derived.Test.YtomdfgfappoiiaaFpl
import Derived.Test.YtomdfgfappoiiaaFrm
import Derived.Test.YtomdfgfappoiiaaFrb
import Derived.Test.YtomdfgfappoiiaaFsum
import Derived.Test.YtomdfgfappoiiaaRng2
import Derived.Test.YtomdfgfappoiiaaOpen4
namespace Go.Proofs.Ytomdfgfappoiiaa
open Go.RowKit Go.Shelf M
attribute [local go_sem] Oper.semAt_some

set_option maxRecDepth 100000 in
set_option maxHeartbeats 8000000 in
theorem walk_FletchPlays (x : Q) (s : ByteArray) (st : Int) (w : World) (hx : x.Ok) (hs : s.size ≤ maxLen) (w2 : (Lit.int .u8 st).wf = true) :
    Calls Try.prog 5 #[.agg #[.int .u64 x.a, .int .u64 x.b, .int .u64 x.c, .int .u64 x.d], .string s, .int .u8 st] w fun e w' => e = .returned (.bool true) ∧ Below w.heap.size w w' := by
  unfold maxLen at hs
  obtain ⟨hst0, hst1⟩ : 0 ≤ st ∧ st ≤ 255 := by simpa [Lit.wf, IntKind.min, IntKind.max, IntKind.signed, IntKind.bits] using w2
  clear w2
  have hK0 := PK.start w x st 29 5 4
  refine (callsIn_wide (n := 5)).1 ?_
  refine callsIn_of_wp_marks Try.func5 rfl trivial (wpIn_wide.2 ?_) rfl
  simp only [Try.ntmps5, List.size_toArray, List.length_cons, List.length_nil, Nat.reduceAdd, Nat.reduceSub, Array.replicate_succ, Array.replicate_zero, List.push_toArray, List.append_toArray, List.nil_append, List.cons_append]
  by_cases hl : 3000 < s.size
  · go_wp2_with fail
    generalize ((w.alloc (.cells #[.int .u64 x.a, .int .u64 x.b, .int .u64 x.c, .int .u64 x.d] 29)).alloc (.cells #[.int .u8 st] 5)).alloc (.cells #[.bool false] 4) = w0 at hK0
    refine (awake2_any _).mono ?_
    rintro e w1 ⟨rfl, b1⟩
    have hK1 := hK0.next b1
    clear b1 hK0
    go_wp2_with fail
    refine (awake2_any _).mono ?_
    rintro e w2 ⟨rfl, b2⟩
    have hK2 := hK1.next b2
    clear b2 hK1
    have hr := hK2.r
    have hrf := hK2.rf
    go_wp2
    refine ⟨.bool true, ?_, rfl, hK2.below.setCell (p := ⟨w.heap.size + 2, 0, none⟩) (by show w.heap.size ≤ w.heap.size + 2; omega) _⟩
    simp [results, Try.f5, go_sem, hr]
  · have hg := sum_guard
    have heq := sum_equal
    go_wp2_with fail
    generalize ((w.alloc (.cells #[.int .u64 x.a, .int .u64 x.b, .int .u64 x.c, .int .u64 x.d] 29)).alloc (.cells #[.int .u8 st] 5)).alloc (.cells #[.bool false] 4) = w0 at hK0
    refine (awake2_any _).mono ?_
    rintro e w1 ⟨rfl, b1⟩
    have hK1 := hK0.next b1
    clear b1 hK0
    go_wp2_with fail
    have HC1 : Hid (∀ z : PW w w.heap.size x st, Calls Try.prog 10 #[.string s] z.v fun e w' => e = .returned (.agg #[.int .u64 (sumQ zeroQ (wordsB s)).a, .int .u64 (sumQ zeroQ (wordsB s)).b, .int .u64 (sumQ zeroQ (wordsB s)).c, .int .u64 (sumQ zeroQ (wordsB s)).d]) ∧ ∃ y : PW w w.heap.size x st, w' = y.v) :=
      Lib.hid (fun z => (sum_any s z.v (by omega)).mono fun e w' ⟨he, hb⟩ => ⟨he, ⟨w', z.h.next hb⟩, rfl⟩)
    have HC2 : Hid (∀ z : PW w w.heap.size x st, Calls Try.prog 12 #[.string s] z.v fun e w' => e = .returned (.agg #[.int .u64 (sumQ zeroQ (wordsB s)).a, .int .u64 (sumQ zeroQ (wordsB s)).b, .int .u64 (sumQ zeroQ (wordsB s)).c, .int .u64 (sumQ zeroQ (wordsB s)).d]) ∧ ∃ y : PW w w.heap.size x st, w' = y.v) :=
      Lib.hid (fun z => (refSum_any s z.v (by omega)).mono fun e w' ⟨he, hb⟩ => ⟨he, ⟨w', z.h.next hb⟩, rfl⟩)
    have HC3 : Hid (∀ z : PW w w.heap.size x st, Calls Try.prog 13 #[.agg #[.int .u64 x.a, .int .u64 x.b, .int .u64 x.c, .int .u64 x.d]] z.v fun e w' => e = .returned (.string (bytesQ x)) ∧ ∃ y : PW w w.heap.size x st, w' = y.v) :=
      Lib.hid (fun z => (bytes_any x z.v hx).mono fun e w' ⟨he, hb⟩ => ⟨he, ⟨w', z.h.next hb⟩, rfl⟩)
    have HC4 : Hid (∀ z : PW w w.heap.size x st, Calls Try.prog 14 #[.agg #[.int .u64 x.a, .int .u64 x.b, .int .u64 x.c, .int .u64 x.d]] z.v fun e w' => e = .returned (.string (bytesQ x)) ∧ ∃ y : PW w w.heap.size x st, w' = y.v) :=
      Lib.hid (fun z => (refBytes_any x z.v hx).mono fun e w' ⟨he, hb⟩ => ⟨he, ⟨w', z.h.next hb⟩, rfl⟩)
    generalize sumQ zeroQ (wordsB s) = r at HC1 HC2
    generalize bytesQ x = X at HC3 HC4
    have er : eq4 r.a r.b r.c r.d r.a r.b r.c r.d = true := eq4_true rfl rfl rfl rfl
    have eX : (X.toList != X.toList) = false := by simp
    have k0 := fun z : PW w w.heap.size x st => z.h.x.c0
    have k1 := fun z : PW w w.heap.size x st => z.h.x.c1
    have k2 := fun z : PW w w.heap.size x st => z.h.x.c2
    have k3 := fun z : PW w w.heap.size x st => z.h.x.c3
    haveI hne : Nonempty (PW w w.heap.size x st) := ⟨⟨w1, hK1⟩⟩
    refine wp_region_family (PW.v (w0 := w) (b := w.heap.size) (q := x) (st := st)) (by kernel_rfl) (by kernel_rfl) ⟨⟨_, hK1.drew⟩, rfl⟩ ?_
    repeat (go_big_quiet_step (first | (go_at_call 10; exact HC1.out _) | (go_at_call 12; exact HC2.out _) | (go_at_call 13; exact HC3.out _) | (go_at_call 14; exact HC4.out _)))
    refine wpQuiet_nil ?_
    rintro w2 ⟨⟨w3, hK3⟩, rfl⟩
    clear HC1 HC2 HC3 HC4 er eX k0 k1 k2 k3 hne hK1
    have q0 := hK3.x.c0
    have q1 := hK3.x.c1
    have q2 := hK3.x.c2
    have q3 := hK3.x.c3
    go_wp2_with fail
    clear q0 q1 q2 q3
    by_cases h4 : s.size % 4 = 0
    · refine (more_any x s _ hx (by omega) h4).mono ?_
      rintro e w4 ⟨rfl, b4⟩
      have hK4 := hK3.next b4
      clear hK3 b4
      generalize hy : sumQ x (wordsB s) = y
      have HY := Lib.hid hy
      clear hy
      have hm4 : ((s.size : Int) % 4 == 0) = true := by rw [beq_iff_eq]; omega
      clear h4
      go_wp2_with fail
      have hKy := hK4.alloc2 y 29
      generalize w4.alloc (.cells #[.int .u64 y.a, .int .u64 y.b, .int .u64 y.c, .int .u64 y.d] 29) = wy at hKy
      generalize w4.heap.size = d at hKy
      clear hK4
      have HC : Hid (∀ z : PW2 w w.heap.size x st d y, Calls Try.prog 15 #[.agg #[.int .u64 x.a, .int .u64 x.b, .int .u64 x.c, .int .u64 x.d], .string s] z.v fun e w' => e = .returned (.agg #[.int .u64 y.a, .int .u64 y.b, .int .u64 y.c, .int .u64 y.d]) ∧ ∃ y' : PW2 w w.heap.size x st d y, w' = y'.v) :=
        Lib.hid (fun z => by
          have := refMore_any x s z.v hx (by omega)
          rw [HY.out] at this
          exact this.mono fun e w' ⟨he, hb⟩ => ⟨he, ⟨w', z.h.next hb⟩, rfl⟩)
      have er : eq4 y.a y.b y.c y.d y.a y.b y.c y.d = true := eq4_true rfl rfl rfl rfl
      have k0 := fun z : PW2 w w.heap.size x st d y => z.h.one.x.c0
      have k1 := fun z : PW2 w w.heap.size x st d y => z.h.one.x.c1
      have k2 := fun z : PW2 w w.heap.size x st d y => z.h.one.x.c2
      have k3 := fun z : PW2 w w.heap.size x st d y => z.h.one.x.c3
      have m0 := fun z : PW2 w w.heap.size x st d y => z.h.two.c0
      have m1 := fun z : PW2 w w.heap.size x st d y => z.h.two.c1
      have m2 := fun z : PW2 w w.heap.size x st d y => z.h.two.c2
      have m3 := fun z : PW2 w w.heap.size x st d y => z.h.two.c3
      haveI hne : Nonempty (PW2 w w.heap.size x st d y) := ⟨⟨wy, hKy⟩⟩
      refine wp_region_family (PW2.v (w0 := w) (b := w.heap.size) (q := x) (st := st) (d := d) (y := y)) (by kernel_rfl) (by kernel_rfl) ⟨⟨_, hKy.drew⟩, rfl⟩ ?_
      repeat (go_big_quiet_step ((go_at_call 15; exact HC.out _)))
      refine wpQuiet_nil ?_
      rintro wz ⟨⟨wz', hKz⟩, rfl⟩
      clear k0 k1 k2 k3 m0 m1 m2 m3 hne hKy
      clear HC er
      by_cases h32 : 32 ≤ s.size
      · have hKs := hKz.one
        clear hKz
        clear hm4
        go_wp2_with fail
        refine (new_any s _).mono ?_
        rintro e w5 ⟨rfl, h5, b5⟩
        go_wp2_with fail
        refine (read_ok wz.heap.size wz.heap.size s _ h5 (Nat.le_refl _) h32).mono ?_
        rintro e w6 ⟨rfl, _, b6⟩
        have hK6 := hKs.next (b5.trans b6)
        clear hKs b5 b6 h5
        have HRD := Lib.hid (bytesQ_read s h32)
        have hok := readQ_ok s
        generalize readQ s = z at HRD hok
        have h32i : decide ((s.size : Int) < 32) = false := by rw [decide_eq_false_iff_not]; omega
        have h32j : decide ((32 : Int) ≤ (s.size : Int)) = true := by rw [decide_eq_true_eq]; omega
        go_wp2_with fail
        have hKy := hK6.alloc2 z 29
        generalize w6.alloc (.cells #[.int .u64 z.a, .int .u64 z.b, .int .u64 z.c, .int .u64 z.d] 29) = wy at hKy
        generalize w6.heap.size = dz at hKy
        clear hK6
        have HC : Hid (∀ u : PW2 w w.heap.size x st dz z, Calls Try.prog 14 #[.agg #[.int .u64 z.a, .int .u64 z.b, .int .u64 z.c, .int .u64 z.d]] u.v fun e w' => e = .returned (.string (s.extract 0 32)) ∧ ∃ y' : PW2 w w.heap.size x st dz z, w' = y'.v) :=
          Lib.hid (fun u => by
            have := refBytes_any z u.v hok
            rw [HRD.out] at this
            exact this.mono fun e w' ⟨he, hb⟩ => ⟨he, ⟨w', u.h.next hb⟩, rfl⟩)
        have eX : ((s.extract 0 32).toList != (s.extract 0 32).toList) = false := by simp
        have k0 := fun z : PW2 w w.heap.size x st dz z => z.h.one.x.c0
        have k1 := fun z : PW2 w w.heap.size x st dz z => z.h.one.x.c1
        have k2 := fun z : PW2 w w.heap.size x st dz z => z.h.one.x.c2
        have k3 := fun z : PW2 w w.heap.size x st dz z => z.h.one.x.c3
        have m0 := fun z : PW2 w w.heap.size x st dz z => z.h.two.c0
        have m1 := fun z : PW2 w w.heap.size x st dz z => z.h.two.c1
        have m2 := fun z : PW2 w w.heap.size x st dz z => z.h.two.c2
        have m3 := fun z : PW2 w w.heap.size x st dz z => z.h.two.c3
        haveI hne : Nonempty (PW2 w w.heap.size x st dz z) := ⟨⟨wy, hKy⟩⟩
        refine wp_region_family (PW2.v (w0 := w) (b := w.heap.size) (q := x) (st := st) (d := dz) (y := z)) (by kernel_rfl) (by kernel_rfl) ⟨⟨_, hKy.drew⟩, rfl⟩ ?_
        repeat (go_big_quiet_step ((go_at_call 14; exact HC.out _)))
        refine wpQuiet_nil ?_
        rintro wv ⟨⟨wv', hKv⟩, rfl⟩
        clear k0 k1 k2 k3 m0 m1 m2 m3 hne hKy
        clear HC eX
        have hKu := hKv.one
        clear hKv
        clear h32i h32j
        go_wp2_with fail
        refine (refPad4 s _ (by omega)).mono ?_
        rintro e w7 ⟨rfl, rfl⟩
        go_wp2_with fail
        refine (words_any s _).mono ?_
        rintro e w8 ⟨rfl, rfl⟩
        obtain ⟨hL0, hc0⟩ := PL.start hKu (padK s 4) s 9 3
        have hb0 : w.heap.size + 2 < wv.heap.size := hKu.lt
        have hs0 : ((((wv.alloc (.cells #[.string (padK s 4)] 9)).alloc (.cells #[.int .i64 0] 3)).alloc (.cells #[.int .i64 0] 3)).alloc (.cells #[.string s] 9)).heap.size = wv.heap.size + 4 := by simp
        clear hKu
        go_wp2_with fail
        generalize (((wv.alloc (.cells #[.string (padK s 4)] 9)).alloc (.cells #[.int .i64 0] 3)).alloc (.cells #[.int .i64 0] 3)).alloc (.cells #[.string s] 9) = W0 at hL0 hc0 hs0
        have hp4 := pad4_size s
        have hpl := pad4_le s
        have hW : ∀ k y, (wordsB s)[k]? = some y → k < (padK s 4).size / 4 ∧ y = numL ((padK s 4).extract (4 * k) (4 * k + 4)).data.toList := fun k y hy => by
          rw [extract_word]
          have := wordsL_get hy
          rw [← size_list] at this
          exact this
        have hNN : (wordsB s).length = (padK s 4).size / 4 := by rw [wordsB, wordsL_length, ← size_list]
        generalize padK s 4 = p at hp4 hpl hW hNN hL0
        have HW := Lib.hid hW
        have HNN := Lib.hid hNN
        have HP4 := Lib.hid hp4
        clear hW hNN hp4
        generalize wv.heap.size = c at hL0 hc0 hb0 hs0
        refine (wpIn_wide (n := 5)).1 ?_
        refine wpIn_range_hands2 14 89 rfl (by omega) (gf := 26) (lb := #[.pointer (some ⟨c + 1 + 1 + 1, 0, none⟩)]) rfl trivial (enters_of Try.func26 (by kernel_rfl) rfl)
          (words1_hands _ (by omega) (c + 1 + 1 + 1) s W0 hc0 (by omega) (by omega)) (Below.refl _ _) rfl
          (fun k W => PL w w.heap.size x st c p (4 * k) k W)
          (fun cd _ W => cd = .ret ∧ PT w w.heap.size W)
          (fun k X Y h hb => h.within hb (by omega) hb0 (by omega))
          (fun cd k X Y h hb => ⟨h.1, h.2.within hb (by omega) (by omega)⟩)
          hL0 ?assign ?body ?done ?stop
        case assign =>
          intro l y W
          gi_wp2
          exact ⟨rfl, trivial⟩
        case body =>
          intro l k y W hy hL
          simp only [List.setIfInBounds_toArray, List.set_cons_succ, List.set_cons_zero]
          obtain ⟨hkN, hyx⟩ := HW.out k y hy
          have hyl : y < 4294967296 := by rw [(wordsL_get hy).2]; exact wordAt_lt _ k
          have hp4 := HP4.out
          have hjp : 4 * k + 4 ≤ p.size := by omega
          have HNum := Lib.hid (fun w => refNumber_any (p.extract (4 * k) (4 * k + 4)) w (by rw [ByteArray.size_extract]; omega))
          rw [← hyx] at HNum
          have hkb : k ≤ 1000 := by omega
          have hbcc : w.heap.size + 2 < c + 4 := by omega
          clear hyx hy hkN hp4 hL0 hc0
          generalize hj : 4 * k = j at hL hjp HNum
          have HJ := Lib.hid hj
          have HL := Lib.hid hL
          obtain ⟨hB, c1, c2, c3, f1, f2, hlt⟩ := hL
          have s1 := hB.st
          have r1 := hB.r
          have r2 := hB.rf
          have hpb : p.size ≤ 4000 := by omega
          clear hj hB
          by_cases hn : (k : Int) + 1 = st
          · have hnb : ((k : Int) + 1 == st) = true := by rw [beq_iff_eq]; exact hn
            clear hn
            gi_wp2_with fail
            refine ⟨trivial, ?_⟩
            refine (CallsIn.inRound l (callsIn_wide.2 (HNum.out _))).mono ?_
            rintro e w9 ⟨rfl, rfl⟩
            gi_wp2
            refine ⟨?_, rfl, ?_⟩
            · exact (((Since.refl _ _).setCell (p := ⟨c + 1, 0, none⟩) (by show c + 1 < _; omega) _).setCell (p := ⟨c + 2, 0, none⟩) (by show c + 2 < _; omega) _).setCell (p := ⟨w.heap.size + 2, 0, none⟩) (by show w.heap.size + 2 < _; omega) _
            · exact (HL.out.step hb0 (by omega) (j + 4) (k + 1)).base.told (by omega)
          · have hnb : ((k : Int) + 1 == st) = false := by rw [beq_eq_false_iff_ne]; exact hn
            clear hn
            gi_wp2_with fail
            refine ⟨trivial, ?_⟩
            refine (CallsIn.inRound l (callsIn_wide.2 (HNum.out _))).mono ?_
            rintro e w9 ⟨rfl, rfl⟩
            gi_wp2
            refine ⟨?_, ?_⟩
            · exact ((Since.refl _ _).setCell (p := ⟨c + 1, 0, none⟩) (by show c + 1 < _; omega) _).setCell (p := ⟨c + 2, 0, none⟩) (by show c + 2 < _; omega) _
            · have := HL.out.step hb0 (by omega) (j + 4) (k + 1)
              show PL w w.heap.size x st c p (4 * (k + 1)) (k + 1) _
              rw [show 4 * (k + 1) = j + 4 by rw [← HJ.out]; omega]
              exact this
        case done =>
          intro D W hD hL hK
          have hpe : 4 * (wordsB s).length = p.size := by rw [HNN.out]; have := HP4.out; omega
          rw [hpe] at hL
          clear hpe hL0 hc0
          have HL := Lib.hid hL
          obtain ⟨hB, c1, c2, c3, f1, f2, hlt⟩ := hL
          have r1 := hB.r
          have r2 := hB.rf
          clear hB
          go_wp2
          have hT := HL.out.base.told (by omega)
          have hK' : (W.setCell ⟨w.heap.size + 2, 0, none⟩ (.bool true)).heap[D]? = some (.deferred (some [])) := (Below.heap_setCell _ _ _ _ (by show D ≠ w.heap.size + 2; omega)).trans hK
          have hT2 := hT.within (below_putObj (Below.refl D _) (Nat.le_refl D) (.deferred none)) (by omega) (by omega)
          refine ⟨by simp, .inl ⟨_, _, rfl, run_takeDeferred hK', ?_⟩⟩
          have hr := hT2.r
          refine ⟨.bool true, ?_, rfl, hT2.below⟩
          simp [results, Try.f5, go_sem, hr]
        case stop =>
          rintro D cd k W hD _ ⟨rfl, hT⟩ hK
          gi_wp2
          have hT2 := hT.within (below_putObj (Below.refl D _) (Nat.le_refl D) (.deferred none)) (by omega) (by omega)
          refine ⟨by simp, .inl ⟨_, _, rfl, run_takeDeferred hK, ?_⟩⟩
          have hr := hT2.r
          refine ⟨.bool true, ?_, rfl, hT2.below⟩
          simp [results, Try.f5, go_sem, hr]
      · have hKs := hKz.one
        clear hKz
        clear hm4
        go_wp2_with fail
        refine (new_any s _).mono ?_
        rintro e w5 ⟨rfl, h5, b5⟩
        go_wp2_with fail
        refine (read_short wz.heap.size wz.heap.size s _ h5 (Nat.le_refl _) (by omega)).mono ?_
        rintro e w6 ⟨rfl, b6⟩
        have hK6 := hKs.next (b5.trans b6)
        clear hKs b5 b6 h5
        have h32i : decide ((s.size : Int) < 32) = true := by rw [decide_eq_true_eq]; omega
        have h32j : decide ((32 : Int) ≤ (s.size : Int)) = false := by rw [decide_eq_false_iff_not]; omega
        go_wp2_with fail
        have hKy := hK6.alloc2 zeroQ 29
        have hKy : PK2 w w.heap.size x st w6.heap.size zeroQ (w6.alloc (.cells #[.int .u64 0, .int .u64 0, .int .u64 0, .int .u64 0] 29)) := hKy
        generalize w6.alloc (.cells #[.int .u64 0, .int .u64 0, .int .u64 0, .int .u64 0] 29) = wy at hKy
        generalize w6.heap.size = dz at hKy
        clear hK6
        have k0 := fun z : PW2 w w.heap.size x st dz zeroQ => z.h.one.x.c0
        have k1 := fun z : PW2 w w.heap.size x st dz zeroQ => z.h.one.x.c1
        have k2 := fun z : PW2 w w.heap.size x st dz zeroQ => z.h.one.x.c2
        have k3 := fun z : PW2 w w.heap.size x st dz zeroQ => z.h.one.x.c3
        have m0 := fun z : PW2 w w.heap.size x st dz zeroQ => z.h.two.c0
        have m1 := fun z : PW2 w w.heap.size x st dz zeroQ => z.h.two.c1
        have m2 := fun z : PW2 w w.heap.size x st dz zeroQ => z.h.two.c2
        have m3 := fun z : PW2 w w.heap.size x st dz zeroQ => z.h.two.c3
        haveI hne : Nonempty (PW2 w w.heap.size x st dz zeroQ) := ⟨⟨wy, hKy⟩⟩
        refine wp_region_family (PW2.v (w0 := w) (b := w.heap.size) (q := x) (st := st) (d := dz) (y := zeroQ)) (by kernel_rfl) (by kernel_rfl) ⟨⟨_, hKy.drew⟩, rfl⟩ ?_
        repeat (go_big_quiet_step (fail))
        refine wpQuiet_nil ?_
        rintro wv ⟨⟨wv', hKv⟩, rfl⟩
        clear k0 k1 k2 k3 m0 m1 m2 m3 hne hKy
        have hKu := hKv.one
        clear hKv
        clear h32i h32j
        go_wp2_with fail
        refine (refPad4 s _ (by omega)).mono ?_
        rintro e w7 ⟨rfl, rfl⟩
        go_wp2_with fail
        refine (words_any s _).mono ?_
        rintro e w8 ⟨rfl, rfl⟩
        obtain ⟨hL0, hc0⟩ := PL.start hKu (padK s 4) s 9 3
        have hb0 : w.heap.size + 2 < wv.heap.size := hKu.lt
        have hs0 : ((((wv.alloc (.cells #[.string (padK s 4)] 9)).alloc (.cells #[.int .i64 0] 3)).alloc (.cells #[.int .i64 0] 3)).alloc (.cells #[.string s] 9)).heap.size = wv.heap.size + 4 := by simp
        clear hKu
        go_wp2_with fail
        generalize (((wv.alloc (.cells #[.string (padK s 4)] 9)).alloc (.cells #[.int .i64 0] 3)).alloc (.cells #[.int .i64 0] 3)).alloc (.cells #[.string s] 9) = W0 at hL0 hc0 hs0
        have hp4 := pad4_size s
        have hpl := pad4_le s
        have hW : ∀ k y, (wordsB s)[k]? = some y → k < (padK s 4).size / 4 ∧ y = numL ((padK s 4).extract (4 * k) (4 * k + 4)).data.toList := fun k y hy => by
          rw [extract_word]
          have := wordsL_get hy
          rw [← size_list] at this
          exact this
        have hNN : (wordsB s).length = (padK s 4).size / 4 := by rw [wordsB, wordsL_length, ← size_list]
        generalize padK s 4 = p at hp4 hpl hW hNN hL0
        have HW := Lib.hid hW
        have HNN := Lib.hid hNN
        have HP4 := Lib.hid hp4
        clear hW hNN hp4
        generalize wv.heap.size = c at hL0 hc0 hb0 hs0
        refine (wpIn_wide (n := 5)).1 ?_
        refine wpIn_range_hands2 14 89 rfl (by omega) (gf := 26) (lb := #[.pointer (some ⟨c + 1 + 1 + 1, 0, none⟩)]) rfl trivial (enters_of Try.func26 (by kernel_rfl) rfl)
          (words1_hands _ (by omega) (c + 1 + 1 + 1) s W0 hc0 (by omega) (by omega)) (Below.refl _ _) rfl
          (fun k W => PL w w.heap.size x st c p (4 * k) k W)
          (fun cd _ W => cd = .ret ∧ PT w w.heap.size W)
          (fun k X Y h hb => h.within hb (by omega) hb0 (by omega))
          (fun cd k X Y h hb => ⟨h.1, h.2.within hb (by omega) (by omega)⟩)
          hL0 ?assign ?body ?done ?stop
        case assign =>
          intro l y W
          gi_wp2
          exact ⟨rfl, trivial⟩
        case body =>
          intro l k y W hy hL
          simp only [List.setIfInBounds_toArray, List.set_cons_succ, List.set_cons_zero]
          obtain ⟨hkN, hyx⟩ := HW.out k y hy
          have hyl : y < 4294967296 := by rw [(wordsL_get hy).2]; exact wordAt_lt _ k
          have hp4 := HP4.out
          have hjp : 4 * k + 4 ≤ p.size := by omega
          have HNum := Lib.hid (fun w => refNumber_any (p.extract (4 * k) (4 * k + 4)) w (by rw [ByteArray.size_extract]; omega))
          rw [← hyx] at HNum
          have hkb : k ≤ 1000 := by omega
          have hbcc : w.heap.size + 2 < c + 4 := by omega
          clear hyx hy hkN hp4 hL0 hc0
          generalize hj : 4 * k = j at hL hjp HNum
          have HJ := Lib.hid hj
          have HL := Lib.hid hL
          obtain ⟨hB, c1, c2, c3, f1, f2, hlt⟩ := hL
          have s1 := hB.st
          have r1 := hB.r
          have r2 := hB.rf
          have hpb : p.size ≤ 4000 := by omega
          clear hj hB
          by_cases hn : (k : Int) + 1 = st
          · have hnb : ((k : Int) + 1 == st) = true := by rw [beq_iff_eq]; exact hn
            clear hn
            gi_wp2_with fail
            refine ⟨trivial, ?_⟩
            refine (CallsIn.inRound l (callsIn_wide.2 (HNum.out _))).mono ?_
            rintro e w9 ⟨rfl, rfl⟩
            gi_wp2
            refine ⟨?_, rfl, ?_⟩
            · exact (((Since.refl _ _).setCell (p := ⟨c + 1, 0, none⟩) (by show c + 1 < _; omega) _).setCell (p := ⟨c + 2, 0, none⟩) (by show c + 2 < _; omega) _).setCell (p := ⟨w.heap.size + 2, 0, none⟩) (by show w.heap.size + 2 < _; omega) _
            · exact (HL.out.step hb0 (by omega) (j + 4) (k + 1)).base.told (by omega)
          · have hnb : ((k : Int) + 1 == st) = false := by rw [beq_eq_false_iff_ne]; exact hn
            clear hn
            gi_wp2_with fail
            refine ⟨trivial, ?_⟩
            refine (CallsIn.inRound l (callsIn_wide.2 (HNum.out _))).mono ?_
            rintro e w9 ⟨rfl, rfl⟩
            gi_wp2
            refine ⟨?_, ?_⟩
            · exact ((Since.refl _ _).setCell (p := ⟨c + 1, 0, none⟩) (by show c + 1 < _; omega) _).setCell (p := ⟨c + 2, 0, none⟩) (by show c + 2 < _; omega) _
            · have := HL.out.step hb0 (by omega) (j + 4) (k + 1)
              show PL w w.heap.size x st c p (4 * (k + 1)) (k + 1) _
              rw [show 4 * (k + 1) = j + 4 by rw [← HJ.out]; omega]
              exact this
        case done =>
          intro D W hD hL hK
          have hpe : 4 * (wordsB s).length = p.size := by rw [HNN.out]; have := HP4.out; omega
          rw [hpe] at hL
          clear hpe hL0 hc0
          have HL := Lib.hid hL
          obtain ⟨hB, c1, c2, c3, f1, f2, hlt⟩ := hL
          have r1 := hB.r
          have r2 := hB.rf
          clear hB
          go_wp2
          have hT := HL.out.base.told (by omega)
          have hK' : (W.setCell ⟨w.heap.size + 2, 0, none⟩ (.bool true)).heap[D]? = some (.deferred (some [])) := (Below.heap_setCell _ _ _ _ (by show D ≠ w.heap.size + 2; omega)).trans hK
          have hT2 := hT.within (below_putObj (Below.refl D _) (Nat.le_refl D) (.deferred none)) (by omega) (by omega)
          refine ⟨by simp, .inl ⟨_, _, rfl, run_takeDeferred hK', ?_⟩⟩
          have hr := hT2.r
          refine ⟨.bool true, ?_, rfl, hT2.below⟩
          simp [results, Try.f5, go_sem, hr]
        case stop =>
          rintro D cd k W hD _ ⟨rfl, hT⟩ hK
          gi_wp2
          have hT2 := hT.within (below_putObj (Below.refl D _) (Nat.le_refl D) (.deferred none)) (by omega) (by omega)
          refine ⟨by simp, .inl ⟨_, _, rfl, run_takeDeferred hK, ?_⟩⟩
          have hr := hT2.r
          refine ⟨.bool true, ?_, rfl, hT2.below⟩
          simp [results, Try.f5, go_sem, hr]
    · refine (more_bad x s _ (by omega) (by omega)).mono ?_
      rintro e w4 ⟨rfl, b4⟩
      have hK4 := hK3.next b4
      clear hK3 b4
      have hm4 : ((s.size : Int) % 4 == 0) = false := by rw [beq_eq_false_iff_ne]; omega
      clear h4
      go_wp2_with fail
      have hKy := hK4.alloc2 zeroQ 29
      have hKy : PK2 w w.heap.size x st w4.heap.size zeroQ (w4.alloc (.cells #[.int .u64 0, .int .u64 0, .int .u64 0, .int .u64 0] 29)) := hKy
      generalize w4.alloc (.cells #[.int .u64 0, .int .u64 0, .int .u64 0, .int .u64 0] 29) = wy at hKy
      generalize w4.heap.size = d at hKy
      clear hK4
      obtain ⟨y, hy0⟩ : ∃ y, zeroQ = y := ⟨_, rfl⟩
      rw [hy0] at hKy
      clear hy0
      have k0 := fun z : PW2 w w.heap.size x st d y => z.h.one.x.c0
      have k1 := fun z : PW2 w w.heap.size x st d y => z.h.one.x.c1
      have k2 := fun z : PW2 w w.heap.size x st d y => z.h.one.x.c2
      have k3 := fun z : PW2 w w.heap.size x st d y => z.h.one.x.c3
      have m0 := fun z : PW2 w w.heap.size x st d y => z.h.two.c0
      have m1 := fun z : PW2 w w.heap.size x st d y => z.h.two.c1
      have m2 := fun z : PW2 w w.heap.size x st d y => z.h.two.c2
      have m3 := fun z : PW2 w w.heap.size x st d y => z.h.two.c3
      haveI hne : Nonempty (PW2 w w.heap.size x st d y) := ⟨⟨wy, hKy⟩⟩
      refine wp_region_family (PW2.v (w0 := w) (b := w.heap.size) (q := x) (st := st) (d := d) (y := y)) (by kernel_rfl) (by kernel_rfl) ⟨⟨_, hKy.drew⟩, rfl⟩ ?_
      repeat (go_big_quiet_step (fail))
      refine wpQuiet_nil ?_
      rintro wz ⟨⟨wz', hKz⟩, rfl⟩
      clear k0 k1 k2 k3 m0 m1 m2 m3 hne hKy
      by_cases h32 : 32 ≤ s.size
      · have hKs := hKz.one
        clear hKz
        clear hm4
        go_wp2_with fail
        refine (new_any s _).mono ?_
        rintro e w5 ⟨rfl, h5, b5⟩
        go_wp2_with fail
        refine (read_ok wz.heap.size wz.heap.size s _ h5 (Nat.le_refl _) h32).mono ?_
        rintro e w6 ⟨rfl, _, b6⟩
        have hK6 := hKs.next (b5.trans b6)
        clear hKs b5 b6 h5
        have HRD := Lib.hid (bytesQ_read s h32)
        have hok := readQ_ok s
        generalize readQ s = z at HRD hok
        have h32i : decide ((s.size : Int) < 32) = false := by rw [decide_eq_false_iff_not]; omega
        have h32j : decide ((32 : Int) ≤ (s.size : Int)) = true := by rw [decide_eq_true_eq]; omega
        go_wp2_with fail
        have hKy := hK6.alloc2 z 29
        generalize w6.alloc (.cells #[.int .u64 z.a, .int .u64 z.b, .int .u64 z.c, .int .u64 z.d] 29) = wy at hKy
        generalize w6.heap.size = dz at hKy
        clear hK6
        have HC : Hid (∀ u : PW2 w w.heap.size x st dz z, Calls Try.prog 14 #[.agg #[.int .u64 z.a, .int .u64 z.b, .int .u64 z.c, .int .u64 z.d]] u.v fun e w' => e = .returned (.string (s.extract 0 32)) ∧ ∃ y' : PW2 w w.heap.size x st dz z, w' = y'.v) :=
          Lib.hid (fun u => by
            have := refBytes_any z u.v hok
            rw [HRD.out] at this
            exact this.mono fun e w' ⟨he, hb⟩ => ⟨he, ⟨w', u.h.next hb⟩, rfl⟩)
        have eX : ((s.extract 0 32).toList != (s.extract 0 32).toList) = false := by simp
        have k0 := fun z : PW2 w w.heap.size x st dz z => z.h.one.x.c0
        have k1 := fun z : PW2 w w.heap.size x st dz z => z.h.one.x.c1
        have k2 := fun z : PW2 w w.heap.size x st dz z => z.h.one.x.c2
        have k3 := fun z : PW2 w w.heap.size x st dz z => z.h.one.x.c3
        have m0 := fun z : PW2 w w.heap.size x st dz z => z.h.two.c0
        have m1 := fun z : PW2 w w.heap.size x st dz z => z.h.two.c1
        have m2 := fun z : PW2 w w.heap.size x st dz z => z.h.two.c2
        have m3 := fun z : PW2 w w.heap.size x st dz z => z.h.two.c3
        haveI hne : Nonempty (PW2 w w.heap.size x st dz z) := ⟨⟨wy, hKy⟩⟩
        refine wp_region_family (PW2.v (w0 := w) (b := w.heap.size) (q := x) (st := st) (d := dz) (y := z)) (by kernel_rfl) (by kernel_rfl) ⟨⟨_, hKy.drew⟩, rfl⟩ ?_
        repeat (go_big_quiet_step ((go_at_call 14; exact HC.out _)))
        refine wpQuiet_nil ?_
        rintro wv ⟨⟨wv', hKv⟩, rfl⟩
        clear k0 k1 k2 k3 m0 m1 m2 m3 hne hKy
        clear HC eX
        have hKu := hKv.one
        clear hKv
        clear h32i h32j
        go_wp2_with fail
        refine (refPad4 s _ (by omega)).mono ?_
        rintro e w7 ⟨rfl, rfl⟩
        go_wp2_with fail
        refine (words_any s _).mono ?_
        rintro e w8 ⟨rfl, rfl⟩
        obtain ⟨hL0, hc0⟩ := PL.start hKu (padK s 4) s 9 3
        have hb0 : w.heap.size + 2 < wv.heap.size := hKu.lt
        have hs0 : ((((wv.alloc (.cells #[.string (padK s 4)] 9)).alloc (.cells #[.int .i64 0] 3)).alloc (.cells #[.int .i64 0] 3)).alloc (.cells #[.string s] 9)).heap.size = wv.heap.size + 4 := by simp
        clear hKu
        go_wp2_with fail
        generalize (((wv.alloc (.cells #[.string (padK s 4)] 9)).alloc (.cells #[.int .i64 0] 3)).alloc (.cells #[.int .i64 0] 3)).alloc (.cells #[.string s] 9) = W0 at hL0 hc0 hs0
        have hp4 := pad4_size s
        have hpl := pad4_le s
        have hW : ∀ k y, (wordsB s)[k]? = some y → k < (padK s 4).size / 4 ∧ y = numL ((padK s 4).extract (4 * k) (4 * k + 4)).data.toList := fun k y hy => by
          rw [extract_word]
          have := wordsL_get hy
          rw [← size_list] at this
          exact this
        have hNN : (wordsB s).length = (padK s 4).size / 4 := by rw [wordsB, wordsL_length, ← size_list]
        generalize padK s 4 = p at hp4 hpl hW hNN hL0
        have HW := Lib.hid hW
        have HNN := Lib.hid hNN
        have HP4 := Lib.hid hp4
        clear hW hNN hp4
        generalize wv.heap.size = c at hL0 hc0 hb0 hs0
        refine (wpIn_wide (n := 5)).1 ?_
        refine wpIn_range_hands2 14 89 rfl (by omega) (gf := 26) (lb := #[.pointer (some ⟨c + 1 + 1 + 1, 0, none⟩)]) rfl trivial (enters_of Try.func26 (by kernel_rfl) rfl)
          (words1_hands _ (by omega) (c + 1 + 1 + 1) s W0 hc0 (by omega) (by omega)) (Below.refl _ _) rfl
          (fun k W => PL w w.heap.size x st c p (4 * k) k W)
          (fun cd _ W => cd = .ret ∧ PT w w.heap.size W)
          (fun k X Y h hb => h.within hb (by omega) hb0 (by omega))
          (fun cd k X Y h hb => ⟨h.1, h.2.within hb (by omega) (by omega)⟩)
          hL0 ?assign ?body ?done ?stop
        case assign =>
          intro l y W
          gi_wp2
          exact ⟨rfl, trivial⟩
        case body =>
          intro l k y W hy hL
          simp only [List.setIfInBounds_toArray, List.set_cons_succ, List.set_cons_zero]
          obtain ⟨hkN, hyx⟩ := HW.out k y hy
          have hyl : y < 4294967296 := by rw [(wordsL_get hy).2]; exact wordAt_lt _ k
          have hp4 := HP4.out
          have hjp : 4 * k + 4 ≤ p.size := by omega
          have HNum := Lib.hid (fun w => refNumber_any (p.extract (4 * k) (4 * k + 4)) w (by rw [ByteArray.size_extract]; omega))
          rw [← hyx] at HNum
          have hkb : k ≤ 1000 := by omega
          have hbcc : w.heap.size + 2 < c + 4 := by omega
          clear hyx hy hkN hp4 hL0 hc0
          generalize hj : 4 * k = j at hL hjp HNum
          have HJ := Lib.hid hj
          have HL := Lib.hid hL
          obtain ⟨hB, c1, c2, c3, f1, f2, hlt⟩ := hL
          have s1 := hB.st
          have r1 := hB.r
          have r2 := hB.rf
          have hpb : p.size ≤ 4000 := by omega
          clear hj hB
          by_cases hn : (k : Int) + 1 = st
          · have hnb : ((k : Int) + 1 == st) = true := by rw [beq_iff_eq]; exact hn
            clear hn
            gi_wp2_with fail
            refine ⟨trivial, ?_⟩
            refine (CallsIn.inRound l (callsIn_wide.2 (HNum.out _))).mono ?_
            rintro e w9 ⟨rfl, rfl⟩
            gi_wp2
            refine ⟨?_, rfl, ?_⟩
            · exact (((Since.refl _ _).setCell (p := ⟨c + 1, 0, none⟩) (by show c + 1 < _; omega) _).setCell (p := ⟨c + 2, 0, none⟩) (by show c + 2 < _; omega) _).setCell (p := ⟨w.heap.size + 2, 0, none⟩) (by show w.heap.size + 2 < _; omega) _
            · exact (HL.out.step hb0 (by omega) (j + 4) (k + 1)).base.told (by omega)
          · have hnb : ((k : Int) + 1 == st) = false := by rw [beq_eq_false_iff_ne]; exact hn
            clear hn
            gi_wp2_with fail
            refine ⟨trivial, ?_⟩
            refine (CallsIn.inRound l (callsIn_wide.2 (HNum.out _))).mono ?_
            rintro e w9 ⟨rfl, rfl⟩
            gi_wp2
            refine ⟨?_, ?_⟩
            · exact ((Since.refl _ _).setCell (p := ⟨c + 1, 0, none⟩) (by show c + 1 < _; omega) _).setCell (p := ⟨c + 2, 0, none⟩) (by show c + 2 < _; omega) _
            · have := HL.out.step hb0 (by omega) (j + 4) (k + 1)
              show PL w w.heap.size x st c p (4 * (k + 1)) (k + 1) _
              rw [show 4 * (k + 1) = j + 4 by rw [← HJ.out]; omega]
              exact this
        case done =>
          intro D W hD hL hK
          have hpe : 4 * (wordsB s).length = p.size := by rw [HNN.out]; have := HP4.out; omega
          rw [hpe] at hL
          clear hpe hL0 hc0
          have HL := Lib.hid hL
          obtain ⟨hB, c1, c2, c3, f1, f2, hlt⟩ := hL
          have r1 := hB.r
          have r2 := hB.rf
          clear hB
          go_wp2
          have hT := HL.out.base.told (by omega)
          have hK' : (W.setCell ⟨w.heap.size + 2, 0, none⟩ (.bool true)).heap[D]? = some (.deferred (some [])) := (Below.heap_setCell _ _ _ _ (by show D ≠ w.heap.size + 2; omega)).trans hK
          have hT2 := hT.within (below_putObj (Below.refl D _) (Nat.le_refl D) (.deferred none)) (by omega) (by omega)
          refine ⟨by simp, .inl ⟨_, _, rfl, run_takeDeferred hK', ?_⟩⟩
          have hr := hT2.r
          refine ⟨.bool true, ?_, rfl, hT2.below⟩
          simp [results, Try.f5, go_sem, hr]
        case stop =>
          rintro D cd k W hD _ ⟨rfl, hT⟩ hK
          gi_wp2
          have hT2 := hT.within (below_putObj (Below.refl D _) (Nat.le_refl D) (.deferred none)) (by omega) (by omega)
          refine ⟨by simp, .inl ⟨_, _, rfl, run_takeDeferred hK, ?_⟩⟩
          have hr := hT2.r
          refine ⟨.bool true, ?_, rfl, hT2.below⟩
          simp [results, Try.f5, go_sem, hr]
      · have hKs := hKz.one
        clear hKz
        clear hm4
        go_wp2_with fail
        refine (new_any s _).mono ?_
        rintro e w5 ⟨rfl, h5, b5⟩
        go_wp2_with fail
        refine (read_short wz.heap.size wz.heap.size s _ h5 (Nat.le_refl _) (by omega)).mono ?_
        rintro e w6 ⟨rfl, b6⟩
        have hK6 := hKs.next (b5.trans b6)
        clear hKs b5 b6 h5
        have h32i : decide ((s.size : Int) < 32) = true := by rw [decide_eq_true_eq]; omega
        have h32j : decide ((32 : Int) ≤ (s.size : Int)) = false := by rw [decide_eq_false_iff_not]; omega
        go_wp2_with fail
        have hKy := hK6.alloc2 zeroQ 29
        have hKy : PK2 w w.heap.size x st w6.heap.size zeroQ (w6.alloc (.cells #[.int .u64 0, .int .u64 0, .int .u64 0, .int .u64 0] 29)) := hKy
        generalize w6.alloc (.cells #[.int .u64 0, .int .u64 0, .int .u64 0, .int .u64 0] 29) = wy at hKy
        generalize w6.heap.size = dz at hKy
        clear hK6
        have k0 := fun z : PW2 w w.heap.size x st dz zeroQ => z.h.one.x.c0
        have k1 := fun z : PW2 w w.heap.size x st dz zeroQ => z.h.one.x.c1
        have k2 := fun z : PW2 w w.heap.size x st dz zeroQ => z.h.one.x.c2
        have k3 := fun z : PW2 w w.heap.size x st dz zeroQ => z.h.one.x.c3
        have m0 := fun z : PW2 w w.heap.size x st dz zeroQ => z.h.two.c0
        have m1 := fun z : PW2 w w.heap.size x st dz zeroQ => z.h.two.c1
        have m2 := fun z : PW2 w w.heap.size x st dz zeroQ => z.h.two.c2
        have m3 := fun z : PW2 w w.heap.size x st dz zeroQ => z.h.two.c3
        haveI hne : Nonempty (PW2 w w.heap.size x st dz zeroQ) := ⟨⟨wy, hKy⟩⟩
        refine wp_region_family (PW2.v (w0 := w) (b := w.heap.size) (q := x) (st := st) (d := dz) (y := zeroQ)) (by kernel_rfl) (by kernel_rfl) ⟨⟨_, hKy.drew⟩, rfl⟩ ?_
        repeat (go_big_quiet_step (fail))
        refine wpQuiet_nil ?_
        rintro wv ⟨⟨wv', hKv⟩, rfl⟩
        clear k0 k1 k2 k3 m0 m1 m2 m3 hne hKy
        have hKu := hKv.one
        clear hKv
        clear h32i h32j
        go_wp2_with fail
        refine (refPad4 s _ (by omega)).mono ?_
        rintro e w7 ⟨rfl, rfl⟩
        go_wp2_with fail
        refine (words_any s _).mono ?_
        rintro e w8 ⟨rfl, rfl⟩
        obtain ⟨hL0, hc0⟩ := PL.start hKu (padK s 4) s 9 3
        have hb0 : w.heap.size + 2 < wv.heap.size := hKu.lt
        have hs0 : ((((wv.alloc (.cells #[.string (padK s 4)] 9)).alloc (.cells #[.int .i64 0] 3)).alloc (.cells #[.int .i64 0] 3)).alloc (.cells #[.string s] 9)).heap.size = wv.heap.size + 4 := by simp
        clear hKu
        go_wp2_with fail
        generalize (((wv.alloc (.cells #[.string (padK s 4)] 9)).alloc (.cells #[.int .i64 0] 3)).alloc (.cells #[.int .i64 0] 3)).alloc (.cells #[.string s] 9) = W0 at hL0 hc0 hs0
        have hp4 := pad4_size s
        have hpl := pad4_le s
        have hW : ∀ k y, (wordsB s)[k]? = some y → k < (padK s 4).size / 4 ∧ y = numL ((padK s 4).extract (4 * k) (4 * k + 4)).data.toList := fun k y hy => by
          rw [extract_word]
          have := wordsL_get hy
          rw [← size_list] at this
          exact this
        have hNN : (wordsB s).length = (padK s 4).size / 4 := by rw [wordsB, wordsL_length, ← size_list]
        generalize padK s 4 = p at hp4 hpl hW hNN hL0
        have HW := Lib.hid hW
        have HNN := Lib.hid hNN
        have HP4 := Lib.hid hp4
        clear hW hNN hp4
        generalize wv.heap.size = c at hL0 hc0 hb0 hs0
        refine (wpIn_wide (n := 5)).1 ?_
        refine wpIn_range_hands2 14 89 rfl (by omega) (gf := 26) (lb := #[.pointer (some ⟨c + 1 + 1 + 1, 0, none⟩)]) rfl trivial (enters_of Try.func26 (by kernel_rfl) rfl)
          (words1_hands _ (by omega) (c + 1 + 1 + 1) s W0 hc0 (by omega) (by omega)) (Below.refl _ _) rfl
          (fun k W => PL w w.heap.size x st c p (4 * k) k W)
          (fun cd _ W => cd = .ret ∧ PT w w.heap.size W)
          (fun k X Y h hb => h.within hb (by omega) hb0 (by omega))
          (fun cd k X Y h hb => ⟨h.1, h.2.within hb (by omega) (by omega)⟩)
          hL0 ?assign ?body ?done ?stop
        case assign =>
          intro l y W
          gi_wp2
          exact ⟨rfl, trivial⟩
        case body =>
          intro l k y W hy hL
          simp only [List.setIfInBounds_toArray, List.set_cons_succ, List.set_cons_zero]
          obtain ⟨hkN, hyx⟩ := HW.out k y hy
          have hyl : y < 4294967296 := by rw [(wordsL_get hy).2]; exact wordAt_lt _ k
          have hp4 := HP4.out
          have hjp : 4 * k + 4 ≤ p.size := by omega
          have HNum := Lib.hid (fun w => refNumber_any (p.extract (4 * k) (4 * k + 4)) w (by rw [ByteArray.size_extract]; omega))
          rw [← hyx] at HNum
          have hkb : k ≤ 1000 := by omega
          have hbcc : w.heap.size + 2 < c + 4 := by omega
          clear hyx hy hkN hp4 hL0 hc0
          generalize hj : 4 * k = j at hL hjp HNum
          have HJ := Lib.hid hj
          have HL := Lib.hid hL
          obtain ⟨hB, c1, c2, c3, f1, f2, hlt⟩ := hL
          have s1 := hB.st
          have r1 := hB.r
          have r2 := hB.rf
          have hpb : p.size ≤ 4000 := by omega
          clear hj hB
          by_cases hn : (k : Int) + 1 = st
          · have hnb : ((k : Int) + 1 == st) = true := by rw [beq_iff_eq]; exact hn
            clear hn
            gi_wp2_with fail
            refine ⟨trivial, ?_⟩
            refine (CallsIn.inRound l (callsIn_wide.2 (HNum.out _))).mono ?_
            rintro e w9 ⟨rfl, rfl⟩
            gi_wp2
            refine ⟨?_, rfl, ?_⟩
            · exact (((Since.refl _ _).setCell (p := ⟨c + 1, 0, none⟩) (by show c + 1 < _; omega) _).setCell (p := ⟨c + 2, 0, none⟩) (by show c + 2 < _; omega) _).setCell (p := ⟨w.heap.size + 2, 0, none⟩) (by show w.heap.size + 2 < _; omega) _
            · exact (HL.out.step hb0 (by omega) (j + 4) (k + 1)).base.told (by omega)
          · have hnb : ((k : Int) + 1 == st) = false := by rw [beq_eq_false_iff_ne]; exact hn
            clear hn
            gi_wp2_with fail
            refine ⟨trivial, ?_⟩
            refine (CallsIn.inRound l (callsIn_wide.2 (HNum.out _))).mono ?_
            rintro e w9 ⟨rfl, rfl⟩
            gi_wp2
            refine ⟨?_, ?_⟩
            · exact ((Since.refl _ _).setCell (p := ⟨c + 1, 0, none⟩) (by show c + 1 < _; omega) _).setCell (p := ⟨c + 2, 0, none⟩) (by show c + 2 < _; omega) _
            · have := HL.out.step hb0 (by omega) (j + 4) (k + 1)
              show PL w w.heap.size x st c p (4 * (k + 1)) (k + 1) _
              rw [show 4 * (k + 1) = j + 4 by rw [← HJ.out]; omega]
              exact this
        case done =>
          intro D W hD hL hK
          have hpe : 4 * (wordsB s).length = p.size := by rw [HNN.out]; have := HP4.out; omega
          rw [hpe] at hL
          clear hpe hL0 hc0
          have HL := Lib.hid hL
          obtain ⟨hB, c1, c2, c3, f1, f2, hlt⟩ := hL
          have r1 := hB.r
          have r2 := hB.rf
          clear hB
          go_wp2
          have hT := HL.out.base.told (by omega)
          have hK' : (W.setCell ⟨w.heap.size + 2, 0, none⟩ (.bool true)).heap[D]? = some (.deferred (some [])) := (Below.heap_setCell _ _ _ _ (by show D ≠ w.heap.size + 2; omega)).trans hK
          have hT2 := hT.within (below_putObj (Below.refl D _) (Nat.le_refl D) (.deferred none)) (by omega) (by omega)
          refine ⟨by simp, .inl ⟨_, _, rfl, run_takeDeferred hK', ?_⟩⟩
          have hr := hT2.r
          refine ⟨.bool true, ?_, rfl, hT2.below⟩
          simp [results, Try.f5, go_sem, hr]
        case stop =>
          rintro D cd k W hD _ ⟨rfl, hT⟩ hK
          gi_wp2
          have hT2 := hT.within (below_putObj (Below.refl D _) (Nat.le_refl D) (.deferred none)) (by omega) (by omega)
          refine ⟨by simp, .inl ⟨_, _, rfl, run_takeDeferred hK, ?_⟩⟩
          have hr := hT2.r
          refine ⟨.bool true, ?_, rfl, hT2.below⟩
          simp [results, Try.f5, go_sem, hr]
end Go.Proofs.Ytomdfgfappoiiaa
