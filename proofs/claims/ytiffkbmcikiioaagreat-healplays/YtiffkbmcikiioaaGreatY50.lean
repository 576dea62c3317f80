/-
  polderlaw10.laid, where no block is laid.
-/
import Derived.Test.YtiffkbmcikiioaaGreatY48

/- polderlaw10.laid, where no block is laid. -/
namespace Go.Proofs.YtiffkbmcikiioaaGreat
set_option maxRecDepth 100000
open Go.RowKit Go.Shelf Go.Maps M

/-- The devices that laid answers where no block is laid. -/
def LaidX (B : Nat) (W : World) (vx : Value) : Prop := vx = noDevs ∨ ∃ (x : Px) (l : List (Int × Int)) (ds : Nat → Dv) (aw : Nat → Bool) (K : Nat), vx = x.val ∧ St B W x l ds aw K (fun _ => True)
set_option maxHeartbeats 8000000 in
theorem laid_no (v : Value) (l : List (Int × Int)) (sc : Int) (p : Ptr) (s : ByteArray) (aA aL : Option Addr) (nA cA nL cL : Nat) (w : World) (h : Meas w v l sc) (hx : p.Ok) (hs : s.size ≤ maxLen) (hgo : laidB l sc p s = false) :
    Calls Tryz.prog 9 #[v, p.val, .string s, .slice aA nA cA, .slice aL nL cL] w fun e w' => ∃ (vx : Value) (q : Ptr), e = .returned (.tuple #[vx, q.val, .slice none 0 0, .bool false]) ∧ LaidX w.heap.size w' vx ∧ Below w.heap.size w w' := by
  have hml : s.size ≤ 9223372036854775807 := by unfold maxLen at hs; exact hs
  obtain ⟨a, gn, gc, rfl, hg⟩ := id h
  obtain ⟨W0, hW0, hLB0, hB0, hsz0⟩ := LB.start (w := w) (a := a) (n := gn) (c := gc) (sc := sc) p
  have HM0 := Lib.hid (h.below hB0)
  have HMS : Hid (∀ W, Below w.heap.size w W → Meas W (.agg #[.slice a gn gc, .int .i64 sc]) l sc) := Lib.hid fun W hb => h.below hb
  have HOKX := Lib.hid (lqP_ok hx hs)
  have HW0 := Lib.hid hW0
  have HLB0 := Lib.hid hLB0
  have HB0 := Lib.hid hB0
  have HZ0 := Lib.hid hsz0
  clear h hx hs hg hW0 hLB0 hB0 hsz0
  unfold Ptr.val
  unfold Ptr.cells at HW0 ⊢
  obtain ⟨k0, k1, p0, p1, p2, p3, p4, p5, p6, p7, p8, p9, p10, p11, f5, f8, f9, f10, f11⟩ := HLB0.out.f
  by_cases hs1 : s.size ≤ 1000
  case neg =>
    have d1 : decide (1000 < (s.size : Int)) = true := by rw [decide_eq_true_iff]; omega
    clear hgo hs1
    go_enter Tryz.func9, Tryz.ntmps9
    go_wp2_with (first | (rw [HW0.out]; fail))
    rw [HW0.out]
    have u0_ : W0.cell? ⟨w.heap.size + 2, 0, none⟩ = some (.slice none 0 0) := heap_cell HLB0.out.d rfl
    have y0_ : W0.frozen? ⟨w.heap.size + 2, 0, none⟩ = false := heap_frozen HLB0.out.d
    have u1_ : W0.cell? ⟨w.heap.size + 2, 1, none⟩ = some (.int .i64 0) := heap_cell HLB0.out.d rfl
    have y1_ : W0.frozen? ⟨w.heap.size + 2, 1, none⟩ = false := heap_frozen HLB0.out.d
    have u2_ : W0.cell? ⟨w.heap.size + 2, 2, none⟩ = some (.slice none 0 0) := heap_cell HLB0.out.d rfl
    have y2_ : W0.frozen? ⟨w.heap.size + 2, 2, none⟩ = false := heap_frozen HLB0.out.d
    have u3_ : W0.cell? ⟨w.heap.size + 2, 3, none⟩ = some (.slice none 0 0) := heap_cell HLB0.out.d rfl
    have y3_ : W0.frozen? ⟨w.heap.size + 2, 3, none⟩ = false := heap_frozen HLB0.out.d
    have v0_ : W0.cell? ⟨w.heap.size + 3, 0, none⟩ = some (.int .i64 0) := heap_cell HLB0.out.r rfl
    have z0_ : W0.frozen? ⟨w.heap.size + 3, 0, none⟩ = false := heap_frozen HLB0.out.r
    have v1_ : W0.cell? ⟨w.heap.size + 3, 1, none⟩ = some (.int .i64 0) := heap_cell HLB0.out.r rfl
    have z1_ : W0.frozen? ⟨w.heap.size + 3, 1, none⟩ = false := heap_frozen HLB0.out.r
    have v2_ : W0.cell? ⟨w.heap.size + 3, 2, none⟩ = some (.int .i64 0) := heap_cell HLB0.out.r rfl
    have z2_ : W0.frozen? ⟨w.heap.size + 3, 2, none⟩ = false := heap_frozen HLB0.out.r
    have v3_ : W0.cell? ⟨w.heap.size + 3, 3, none⟩ = some (.int .i64 0) := heap_cell HLB0.out.r rfl
    have z3_ : W0.frozen? ⟨w.heap.size + 3, 3, none⟩ = false := heap_frozen HLB0.out.r
    have v4_ : W0.cell? ⟨w.heap.size + 3, 4, none⟩ = some (.bool false) := heap_cell HLB0.out.r rfl
    have z4_ : W0.frozen? ⟨w.heap.size + 3, 4, none⟩ = false := heap_frozen HLB0.out.r
    have v5_ : W0.cell? ⟨w.heap.size + 3, 5, none⟩ = some (.int .i64 0) := heap_cell HLB0.out.r rfl
    have z5_ : W0.frozen? ⟨w.heap.size + 3, 5, none⟩ = false := heap_frozen HLB0.out.r
    have v6_ : W0.cell? ⟨w.heap.size + 3, 6, none⟩ = some (.int .i64 0) := heap_cell HLB0.out.r rfl
    have z6_ : W0.frozen? ⟨w.heap.size + 3, 6, none⟩ = false := heap_frozen HLB0.out.r
    have v7_ : W0.cell? ⟨w.heap.size + 3, 7, none⟩ = some (.int .i64 0) := heap_cell HLB0.out.r rfl
    have z7_ : W0.frozen? ⟨w.heap.size + 3, 7, none⟩ = false := heap_frozen HLB0.out.r
    have v8_ : W0.cell? ⟨w.heap.size + 3, 8, none⟩ = some (.int .u64 0) := heap_cell HLB0.out.r rfl
    have z8_ : W0.frozen? ⟨w.heap.size + 3, 8, none⟩ = false := heap_frozen HLB0.out.r
    have v9_ : W0.cell? ⟨w.heap.size + 3, 9, none⟩ = some (.int .u64 0) := heap_cell HLB0.out.r rfl
    have z9_ : W0.frozen? ⟨w.heap.size + 3, 9, none⟩ = false := heap_frozen HLB0.out.r
    have v10_ : W0.cell? ⟨w.heap.size + 3, 10, none⟩ = some (.int .u64 0) := heap_cell HLB0.out.r rfl
    have z10_ : W0.frozen? ⟨w.heap.size + 3, 10, none⟩ = false := heap_frozen HLB0.out.r
    have v11_ : W0.cell? ⟨w.heap.size + 3, 11, none⟩ = some (.int .u64 0) := heap_cell HLB0.out.r rfl
    have z11_ : W0.frozen? ⟨w.heap.size + 3, 11, none⟩ = false := heap_frozen HLB0.out.r
    obtain ⟨HO1, HO2⟩ := HLB0.out.out (.slice none 0 0) (.int .i64 0) (.slice none 0 0) (.slice none 0 0) (.int .i64 p.ag) (.int .i64 p.aa) (.int .i64 p.bg) (.int .i64 p.ba) (.bool p.two) (.int .i64 p.sz) (.int .i64 p.lv) (.int .i64 p.bi) (.int .u64 (p.q.a : Int)) (.int .u64 (p.q.b : Int)) (.int .u64 (p.q.c : Int)) (.int .u64 (p.q.d : Int))
    have e0 := heap_cell (i := 0) HO1 rfl
    have e1 := heap_cell (i := 1) HO1 rfl
    have e2 := heap_cell (i := 2) HO1 rfl
    have e3 := heap_cell (i := 3) HO1 rfl
    have t0 := heap_cell (i := 0) HO2 rfl
    have t1 := heap_cell (i := 1) HO2 rfl
    have t2 := heap_cell (i := 2) HO2 rfl
    have t3 := heap_cell (i := 3) HO2 rfl
    have t4 := heap_cell (i := 4) HO2 rfl
    have t5 := heap_cell (i := 5) HO2 rfl
    have t6 := heap_cell (i := 6) HO2 rfl
    have t7 := heap_cell (i := 7) HO2 rfl
    have t8 := heap_cell (i := 8) HO2 rfl
    have t9 := heap_cell (i := 9) HO2 rfl
    have t10 := heap_cell (i := 10) HO2 rfl
    have t11 := heap_cell (i := 11) HO2 rfl
    unfold putW putV at e0 e1 e2 e3 t0 t1 t2 t3 t4 t5 t6 t7 t8 t9 t10 t11
    clear HO1 HO2
    go_upto_region 2 with (fail)
    go_region
    go_wp2_with fail
    refine bodyPost_ret (v := .tuple #[.agg #[.slice none 0 0, .int .i64 0, .slice none 0 0, .slice none 0 0], .agg #[.int .i64 p.ag, .int .i64 p.aa, .int .i64 p.bg, .int .i64 p.ba, .bool p.two, .int .i64 p.sz, .int .i64 p.lv, .int .i64 p.bi, .int .u64 (p.q.a : Int), .int .u64 (p.q.b : Int), .int .u64 (p.q.c : Int), .int .u64 (p.q.d : Int)], .slice none 0 0, .bool false]) ?_ rfl ⟨.agg #[.slice none 0 0, .int .i64 0, .slice none 0 0, .slice none 0 0], p, by rfl, ?_, ?_⟩
    · simp [results, Tryz.results9, go_sem, e0, e1, e2, e3, t0, t1, t2, t3, t4, t5, t6, t7, t8, t9, t10, t11]
    · exact .inl rfl
    · exact HB0.out.trans ((((putV_turn W0 w.heap.size _ _ _ _).below (fun k hk => by omega) HB0.out.size).trans ((putW_turn _ w.heap.size _ _ _ _ _ _ _ _ _ _ _ _).below (fun k hk => by omega) (by have := (putV_turn W0 w.heap.size (.slice none 0 0) (.int .i64 0) (.slice none 0 0) (.slice none 0 0)).size; have := HB0.out.size; omega))).drew)
  have d1 : decide (1000 < (s.size : Int)) = false := by rw [decide_eq_false_iff_not]; omega
  by_cases hmod : s.size % 64 = 0
  case neg =>
    have q3 : (Int.tmod (s.size : Int) 64 == 0) = false := by rw [Int.tmod_eq_emod_of_nonneg (by omega)]; simp; omega
    have q4 : ((s.size : Int) % 64 != 0) = true := by simp; omega
    clear hgo hs1 hmod
    go_enter Tryz.func9, Tryz.ntmps9
    go_wp2_with (first | (rw [HW0.out]; fail))
    rw [HW0.out]
    have u0_ : W0.cell? ⟨w.heap.size + 2, 0, none⟩ = some (.slice none 0 0) := heap_cell HLB0.out.d rfl
    have y0_ : W0.frozen? ⟨w.heap.size + 2, 0, none⟩ = false := heap_frozen HLB0.out.d
    have u1_ : W0.cell? ⟨w.heap.size + 2, 1, none⟩ = some (.int .i64 0) := heap_cell HLB0.out.d rfl
    have y1_ : W0.frozen? ⟨w.heap.size + 2, 1, none⟩ = false := heap_frozen HLB0.out.d
    have u2_ : W0.cell? ⟨w.heap.size + 2, 2, none⟩ = some (.slice none 0 0) := heap_cell HLB0.out.d rfl
    have y2_ : W0.frozen? ⟨w.heap.size + 2, 2, none⟩ = false := heap_frozen HLB0.out.d
    have u3_ : W0.cell? ⟨w.heap.size + 2, 3, none⟩ = some (.slice none 0 0) := heap_cell HLB0.out.d rfl
    have y3_ : W0.frozen? ⟨w.heap.size + 2, 3, none⟩ = false := heap_frozen HLB0.out.d
    have v0_ : W0.cell? ⟨w.heap.size + 3, 0, none⟩ = some (.int .i64 0) := heap_cell HLB0.out.r rfl
    have z0_ : W0.frozen? ⟨w.heap.size + 3, 0, none⟩ = false := heap_frozen HLB0.out.r
    have v1_ : W0.cell? ⟨w.heap.size + 3, 1, none⟩ = some (.int .i64 0) := heap_cell HLB0.out.r rfl
    have z1_ : W0.frozen? ⟨w.heap.size + 3, 1, none⟩ = false := heap_frozen HLB0.out.r
    have v2_ : W0.cell? ⟨w.heap.size + 3, 2, none⟩ = some (.int .i64 0) := heap_cell HLB0.out.r rfl
    have z2_ : W0.frozen? ⟨w.heap.size + 3, 2, none⟩ = false := heap_frozen HLB0.out.r
    have v3_ : W0.cell? ⟨w.heap.size + 3, 3, none⟩ = some (.int .i64 0) := heap_cell HLB0.out.r rfl
    have z3_ : W0.frozen? ⟨w.heap.size + 3, 3, none⟩ = false := heap_frozen HLB0.out.r
    have v4_ : W0.cell? ⟨w.heap.size + 3, 4, none⟩ = some (.bool false) := heap_cell HLB0.out.r rfl
    have z4_ : W0.frozen? ⟨w.heap.size + 3, 4, none⟩ = false := heap_frozen HLB0.out.r
    have v5_ : W0.cell? ⟨w.heap.size + 3, 5, none⟩ = some (.int .i64 0) := heap_cell HLB0.out.r rfl
    have z5_ : W0.frozen? ⟨w.heap.size + 3, 5, none⟩ = false := heap_frozen HLB0.out.r
    have v6_ : W0.cell? ⟨w.heap.size + 3, 6, none⟩ = some (.int .i64 0) := heap_cell HLB0.out.r rfl
    have z6_ : W0.frozen? ⟨w.heap.size + 3, 6, none⟩ = false := heap_frozen HLB0.out.r
    have v7_ : W0.cell? ⟨w.heap.size + 3, 7, none⟩ = some (.int .i64 0) := heap_cell HLB0.out.r rfl
    have z7_ : W0.frozen? ⟨w.heap.size + 3, 7, none⟩ = false := heap_frozen HLB0.out.r
    have v8_ : W0.cell? ⟨w.heap.size + 3, 8, none⟩ = some (.int .u64 0) := heap_cell HLB0.out.r rfl
    have z8_ : W0.frozen? ⟨w.heap.size + 3, 8, none⟩ = false := heap_frozen HLB0.out.r
    have v9_ : W0.cell? ⟨w.heap.size + 3, 9, none⟩ = some (.int .u64 0) := heap_cell HLB0.out.r rfl
    have z9_ : W0.frozen? ⟨w.heap.size + 3, 9, none⟩ = false := heap_frozen HLB0.out.r
    have v10_ : W0.cell? ⟨w.heap.size + 3, 10, none⟩ = some (.int .u64 0) := heap_cell HLB0.out.r rfl
    have z10_ : W0.frozen? ⟨w.heap.size + 3, 10, none⟩ = false := heap_frozen HLB0.out.r
    have v11_ : W0.cell? ⟨w.heap.size + 3, 11, none⟩ = some (.int .u64 0) := heap_cell HLB0.out.r rfl
    have z11_ : W0.frozen? ⟨w.heap.size + 3, 11, none⟩ = false := heap_frozen HLB0.out.r
    obtain ⟨HO1, HO2⟩ := HLB0.out.out (.slice none 0 0) (.int .i64 0) (.slice none 0 0) (.slice none 0 0) (.int .i64 p.ag) (.int .i64 p.aa) (.int .i64 p.bg) (.int .i64 p.ba) (.bool p.two) (.int .i64 p.sz) (.int .i64 p.lv) (.int .i64 p.bi) (.int .u64 (p.q.a : Int)) (.int .u64 (p.q.b : Int)) (.int .u64 (p.q.c : Int)) (.int .u64 (p.q.d : Int))
    have e0 := heap_cell (i := 0) HO1 rfl
    have e1 := heap_cell (i := 1) HO1 rfl
    have e2 := heap_cell (i := 2) HO1 rfl
    have e3 := heap_cell (i := 3) HO1 rfl
    have t0 := heap_cell (i := 0) HO2 rfl
    have t1 := heap_cell (i := 1) HO2 rfl
    have t2 := heap_cell (i := 2) HO2 rfl
    have t3 := heap_cell (i := 3) HO2 rfl
    have t4 := heap_cell (i := 4) HO2 rfl
    have t5 := heap_cell (i := 5) HO2 rfl
    have t6 := heap_cell (i := 6) HO2 rfl
    have t7 := heap_cell (i := 7) HO2 rfl
    have t8 := heap_cell (i := 8) HO2 rfl
    have t9 := heap_cell (i := 9) HO2 rfl
    have t10 := heap_cell (i := 10) HO2 rfl
    have t11 := heap_cell (i := 11) HO2 rfl
    unfold putW putV at e0 e1 e2 e3 t0 t1 t2 t3 t4 t5 t6 t7 t8 t9 t10 t11
    clear HO1 HO2
    go_upto_region 2 with (fail)
    go_region
    go_wp2_with fail
    refine bodyPost_ret (v := .tuple #[.agg #[.slice none 0 0, .int .i64 0, .slice none 0 0, .slice none 0 0], .agg #[.int .i64 p.ag, .int .i64 p.aa, .int .i64 p.bg, .int .i64 p.ba, .bool p.two, .int .i64 p.sz, .int .i64 p.lv, .int .i64 p.bi, .int .u64 (p.q.a : Int), .int .u64 (p.q.b : Int), .int .u64 (p.q.c : Int), .int .u64 (p.q.d : Int)], .slice none 0 0, .bool false]) ?_ rfl ⟨.agg #[.slice none 0 0, .int .i64 0, .slice none 0 0, .slice none 0 0], p, by rfl, ?_, ?_⟩
    · simp [results, Tryz.results9, go_sem, e0, e1, e2, e3, t0, t1, t2, t3, t4, t5, t6, t7, t8, t9, t10, t11]
    · exact .inl rfl
    · exact HB0.out.trans ((((putV_turn W0 w.heap.size _ _ _ _).below (fun k hk => by omega) HB0.out.size).trans ((putW_turn _ w.heap.size _ _ _ _ _ _ _ _ _ _ _ _).below (fun k hk => by omega) (by have := (putV_turn W0 w.heap.size (.slice none 0 0) (.int .i64 0) (.slice none 0 0) (.slice none 0 0)).size; have := HB0.out.size; omega))).drew)
  have q3 : Int.tmod (s.size : Int) 64 = 0 := by rw [Int.tmod_eq_emod_of_nonneg (by omega)]; omega
  obtain ⟨z, hz⟩ : ∃ z, s.size / 64 = z := ⟨_, rfl⟩
  have q4 : Int.tdiv (s.size : Int) 64 = (z : Int) := by rw [Int.tdiv_eq_ediv_of_nonneg (by omega)]; omega
  have q5 : IntKind.i64.wrap (z : Int) = (z : Int) := by rw [IntKind.wrap_i64]; omega
  obtain ⟨r, hr⟩ : ∃ r, sumB s = r := ⟨_, rfl⟩
  have hr' : sumQ zeroQ (wordsB s) = r := hr
  have HSM2 := Lib.hid (fun W => sum_any s W (by omega))
  rw [hr'] at HSM2
  have HQ : Hid (lqP p s = { { p with sz := (z : Int) } with q := r }) := Lib.hid (by unfold lqP; rw [hr, hz])
  have hgo2 : ¬ (l.length ≤ 100 ∧ sc ≤ 200 ∧ rightP l sc (lqP p s) = true) := fun ⟨h1, h2, h3⟩ => by
    unfold laidB at hgo
    rw [h3, decide_eq_true hs1, decide_eq_true hmod, decide_eq_true h1, decide_eq_true h2] at hgo
    cases hgo
  clear hgo hs1 hmod hr hr' hz
  by_cases hrx : 100 < l.length ∨ 200 < sc ∨ rightL l sc = false
  · have HDV := Lib.hid (devices_no l sc _ W0 HM0.out hrx (.slice none 0 0) (.slice none 0 0))
    unfold noDevs at HDV
    clear hgo2 hrx
    go_enter Tryz.func9, Tryz.ntmps9
    go_wp2_with (first | (rw [HW0.out]; fail))
    rw [HW0.out]
    go_wp2_with fail
    refine HDV.out.mono ?_
    rintro e w2 ⟨rfl, c2⟩
    have hbx := boxed w2 (.cells #[.slice none 0 0, .int .i64 0, .slice none 0 0, .slice none 0 0] 37)
    have c23 := next c2 hbx
    have hB0z := HZ0.out
    have HLB3 := Lib.hid (HLB0.out.below c23 (by omega))
    have HBw3 : Hid (Below w.heap.size w (w2.alloc (.cells #[.slice none 0 0, .int .i64 0, .slice none 0 0, .slice none 0 0] 37))) := Lib.hid (HB0.out.trans (c23.mono HB0.out.size))
    have hbo := heap_alloc_new w2 (.cells #[.slice none 0 0, .int .i64 0, .slice none 0 0, .slice none 0 0] 37)
    have hw2z := c2.size
    clear k0 k1 p0 p1 p2 p3 p4 p5 p6 p7 p8 p9 p10 p11 f5 f8 f9 f10 f11
    clear c2 hbx c23 HDV
    obtain ⟨k0, k1, p0, p1, p2, p3, p4, p5, p6, p7, p8, p9, p10, p11, f5, f8, f9, f10, f11⟩ := HLB3.out.f
    go_upto_region 4 with (fail)
    obtain ⟨bx, hbx⟩ : ∃ bx, w2.heap.size = bx := ⟨_, rfl⟩
    obtain ⟨w3, hw3⟩ : ∃ w3, w2.alloc (.cells #[.slice none 0 0, .int .i64 0, .slice none 0 0, .slice none 0 0] 37) = w3 := ⟨_, rfl⟩
    rw [hw3] at HLB3 HBw3 hbo k0 k1 p0 p1 p2 p3 p4 p5 p6 p7 p8 p9 p10 p11 f5 f8 f9 f10 f11 ⊢
    rw [hbx] at hbo hw2z ⊢
    clear hw3 hbx
    have HBO := Lib.hid hbo
    have hbl : bx < w3.heap.size := (Array.getElem?_eq_some_iff.1 hbo).1
    clear hbo
    have HLB4 := Lib.hid (HLB3.out.size (z : Int))
    have t4 : Turn (fun k => k = w.heap.size + 1) w3 (w3.setCell ⟨w.heap.size + 1, 5, none⟩ (.int .i64 (z : Int))) := (Turn.refl (fun k => k = w.heap.size + 1) w3).setCell (p := ⟨w.heap.size + 1, 5, none⟩) (.inl rfl) _
    have HBw4 : Hid (Below w.heap.size w (w3.setCell ⟨w.heap.size + 1, 5, none⟩ (.int .i64 (z : Int)))) := Lib.hid (HBw3.out.trans (t4.below (fun k hk => by omega) HBw3.out.size))
    have HBO4 := Lib.hid ((t4.block bx hbl (by omega)).trans HBO.out)
    have hbl4 : bx < (w3.setCell ⟨w.heap.size + 1, 5, none⟩ (.int .i64 (z : Int))).heap.size := Nat.lt_of_lt_of_le hbl t4.size
    clear t4
    go_wp2_with fail
    refine (HSM2.out _).mono ?_
    rintro e w5 ⟨rfl, c5⟩
    have HLB5 := Lib.hid (HLB4.out.below c5 (by have := HLB4.out.lt; omega))
    have HBw5 := Lib.hid (next HBw4.out c5)
    have HBO5 := Lib.hid ((c5.block bx hbl4).trans HBO4.out)
    have hbl5 := Nat.lt_of_lt_of_le hbl4 c5.size
    clear k0 k1 p0 p1 p2 p3 p4 p5 p6 p7 p8 p9 p10 p11 f5 f8 f9 f10 f11
    clear c5 HLB4 HBw4 HSM2 HBO HBO4 hbl hbl4
    obtain ⟨k0, k1, p0, p1, p2, p3, p4, p5, p6, p7, p8, p9, p10, p11, f5, f8, f9, f10, f11⟩ := HLB5.out.f
    have HLB6 := Lib.hid (HLB5.out.sum r)
    have HBw6 := Lib.hid (HBw5.out.trans ((putS_turn w5 w.heap.size r).below (fun k hk => by omega) HBw5.out.size))
    have hbo6 := ((putS_turn w5 w.heap.size r).block bx hbl5 (by omega)).trans HBO5.out
    go_upto_region 6 with (fail)
    obtain ⟨w6, hw6⟩ : ∃ w6, putS w5 w.heap.size r = w6 := ⟨_, rfl⟩
    have hw6' := hw6
    unfold putS at hw6'
    rw [hw6] at HLB6 HBw6 hbo6
    have x0 := heap_cell (i := 0) hbo6 rfl
    have x1 := heap_cell (i := 1) hbo6 rfl
    have x2 := heap_cell (i := 2) hbo6 rfl
    have x3 := heap_cell (i := 3) hbo6 rfl
    clear k0 k1 p0 p1 p2 p3 p4 p5 p6 p7 p8 p9 p10 p11 f5 f8 f9 f10 f11
    obtain ⟨_, _, p0, p1, p2, p3, p4, p5, p6, p7, p8, p9, p10, p11, _, _, _, _, _⟩ := HLB6.out.f
    simp only at p0 p1 p2 p3 p4 p5 p6 p7 p8 p9 p10 p11
    first | rw [hw6'] | (show Code.wp _ _ _ _ (putS w5 w.heap.size r); rw [hw6])
    clear hw6 hw6' hbo6
    have u0_ : w6.cell? ⟨w.heap.size + 2, 0, none⟩ = some (.slice none 0 0) := heap_cell HLB6.out.d rfl
    have y0_ : w6.frozen? ⟨w.heap.size + 2, 0, none⟩ = false := heap_frozen HLB6.out.d
    have u1_ : w6.cell? ⟨w.heap.size + 2, 1, none⟩ = some (.int .i64 0) := heap_cell HLB6.out.d rfl
    have y1_ : w6.frozen? ⟨w.heap.size + 2, 1, none⟩ = false := heap_frozen HLB6.out.d
    have u2_ : w6.cell? ⟨w.heap.size + 2, 2, none⟩ = some (.slice none 0 0) := heap_cell HLB6.out.d rfl
    have y2_ : w6.frozen? ⟨w.heap.size + 2, 2, none⟩ = false := heap_frozen HLB6.out.d
    have u3_ : w6.cell? ⟨w.heap.size + 2, 3, none⟩ = some (.slice none 0 0) := heap_cell HLB6.out.d rfl
    have y3_ : w6.frozen? ⟨w.heap.size + 2, 3, none⟩ = false := heap_frozen HLB6.out.d
    have v0_ : w6.cell? ⟨w.heap.size + 3, 0, none⟩ = some (.int .i64 0) := heap_cell HLB6.out.r rfl
    have z0_ : w6.frozen? ⟨w.heap.size + 3, 0, none⟩ = false := heap_frozen HLB6.out.r
    have v1_ : w6.cell? ⟨w.heap.size + 3, 1, none⟩ = some (.int .i64 0) := heap_cell HLB6.out.r rfl
    have z1_ : w6.frozen? ⟨w.heap.size + 3, 1, none⟩ = false := heap_frozen HLB6.out.r
    have v2_ : w6.cell? ⟨w.heap.size + 3, 2, none⟩ = some (.int .i64 0) := heap_cell HLB6.out.r rfl
    have z2_ : w6.frozen? ⟨w.heap.size + 3, 2, none⟩ = false := heap_frozen HLB6.out.r
    have v3_ : w6.cell? ⟨w.heap.size + 3, 3, none⟩ = some (.int .i64 0) := heap_cell HLB6.out.r rfl
    have z3_ : w6.frozen? ⟨w.heap.size + 3, 3, none⟩ = false := heap_frozen HLB6.out.r
    have v4_ : w6.cell? ⟨w.heap.size + 3, 4, none⟩ = some (.bool false) := heap_cell HLB6.out.r rfl
    have z4_ : w6.frozen? ⟨w.heap.size + 3, 4, none⟩ = false := heap_frozen HLB6.out.r
    have v5_ : w6.cell? ⟨w.heap.size + 3, 5, none⟩ = some (.int .i64 0) := heap_cell HLB6.out.r rfl
    have z5_ : w6.frozen? ⟨w.heap.size + 3, 5, none⟩ = false := heap_frozen HLB6.out.r
    have v6_ : w6.cell? ⟨w.heap.size + 3, 6, none⟩ = some (.int .i64 0) := heap_cell HLB6.out.r rfl
    have z6_ : w6.frozen? ⟨w.heap.size + 3, 6, none⟩ = false := heap_frozen HLB6.out.r
    have v7_ : w6.cell? ⟨w.heap.size + 3, 7, none⟩ = some (.int .i64 0) := heap_cell HLB6.out.r rfl
    have z7_ : w6.frozen? ⟨w.heap.size + 3, 7, none⟩ = false := heap_frozen HLB6.out.r
    have v8_ : w6.cell? ⟨w.heap.size + 3, 8, none⟩ = some (.int .u64 0) := heap_cell HLB6.out.r rfl
    have z8_ : w6.frozen? ⟨w.heap.size + 3, 8, none⟩ = false := heap_frozen HLB6.out.r
    have v9_ : w6.cell? ⟨w.heap.size + 3, 9, none⟩ = some (.int .u64 0) := heap_cell HLB6.out.r rfl
    have z9_ : w6.frozen? ⟨w.heap.size + 3, 9, none⟩ = false := heap_frozen HLB6.out.r
    have v10_ : w6.cell? ⟨w.heap.size + 3, 10, none⟩ = some (.int .u64 0) := heap_cell HLB6.out.r rfl
    have z10_ : w6.frozen? ⟨w.heap.size + 3, 10, none⟩ = false := heap_frozen HLB6.out.r
    have v11_ : w6.cell? ⟨w.heap.size + 3, 11, none⟩ = some (.int .u64 0) := heap_cell HLB6.out.r rfl
    have z11_ : w6.frozen? ⟨w.heap.size + 3, 11, none⟩ = false := heap_frozen HLB6.out.r
    obtain ⟨HO1, HO2⟩ := HLB6.out.out (.slice none 0 0) (.int .i64 0) (.slice none 0 0) (.slice none 0 0) (.int .i64 p.ag) (.int .i64 p.aa) (.int .i64 p.bg) (.int .i64 p.ba) (.bool p.two) (.int .i64 (z : Int)) (.int .i64 p.lv) (.int .i64 p.bi) (.int .u64 (r.a : Int)) (.int .u64 (r.b : Int)) (.int .u64 (r.c : Int)) (.int .u64 (r.d : Int))
    have e0 := heap_cell (i := 0) HO1 rfl
    have e1 := heap_cell (i := 1) HO1 rfl
    have e2 := heap_cell (i := 2) HO1 rfl
    have e3 := heap_cell (i := 3) HO1 rfl
    have t0 := heap_cell (i := 0) HO2 rfl
    have t1 := heap_cell (i := 1) HO2 rfl
    have t2 := heap_cell (i := 2) HO2 rfl
    have t3 := heap_cell (i := 3) HO2 rfl
    have t4 := heap_cell (i := 4) HO2 rfl
    have t5 := heap_cell (i := 5) HO2 rfl
    have t6 := heap_cell (i := 6) HO2 rfl
    have t7 := heap_cell (i := 7) HO2 rfl
    have t8 := heap_cell (i := 8) HO2 rfl
    have t9 := heap_cell (i := 9) HO2 rfl
    have t10 := heap_cell (i := 10) HO2 rfl
    have t11 := heap_cell (i := 11) HO2 rfl
    unfold putW putV at e0 e1 e2 e3 t0 t1 t2 t3 t4 t5 t6 t7 t8 t9 t10 t11
    clear HO1 HO2
    go_upto_region 7 with (fail)
    go_region
    go_wp2_with fail
    refine bodyPost_ret (v := .tuple #[.agg #[.slice none 0 0, .int .i64 0, .slice none 0 0, .slice none 0 0], .agg #[.int .i64 p.ag, .int .i64 p.aa, .int .i64 p.bg, .int .i64 p.ba, .bool p.two, .int .i64 (z : Int), .int .i64 p.lv, .int .i64 p.bi, .int .u64 (r.a : Int), .int .u64 (r.b : Int), .int .u64 (r.c : Int), .int .u64 (r.d : Int)], .slice none 0 0, .bool false]) ?_ rfl ⟨.agg #[.slice none 0 0, .int .i64 0, .slice none 0 0, .slice none 0 0], { { p with sz := (z : Int) } with q := r }, by rfl, ?_, ?_⟩
    · simp [results, Tryz.results9, go_sem, e0, e1, e2, e3, t0, t1, t2, t3, t4, t5, t6, t7, t8, t9, t10, t11]
    · exact .inl rfl
    · exact HBw6.out.trans ((((putV_turn w6 w.heap.size _ _ _ _).below (fun k hk => by omega) HBw6.out.size).trans ((putW_turn _ w.heap.size _ _ _ _ _ _ _ _ _ _ _ _).below (fun k hk => by omega) (by have := (putV_turn w6 w.heap.size (.slice none 0 0) (.int .i64 0) (.slice none 0 0) (.slice none 0 0)).size; have := HBw6.out.size; omega))).drew)
  · have hr1 : RightM l sc := rightM_iff.1 (by cases e : rightL l sc with | true => rfl | false => exact absurd (.inr (.inr e)) hrx)
    have hr2 : l.length ≤ 100 := by omega
    have hr3 : sc ≤ 200 := by omega
    have hrp : rightP l sc (lqP p s) = false := by
      cases e : rightP l sc (lqP p s) with
      | false => rfl
      | true => exact absurd ⟨hr2, hr3, e⟩ hgo2
    have HDV := Lib.hid (devices_ok l sc _ W0 HM0.out hr2 hr3 hr1 none none 0 0 0 0 (fun _ => false) (fun _ => false) (Bl.nil _ _) (Bl.nil _ _))
    have HRT : Hid (∀ W, Below w.heap.size w W → Calls Tryz.prog 30 #[.agg #[.slice a gn gc, .int .i64 sc], (lqP p s).val] W fun e w' => e = .returned (.bool false) ∧ Below W.heap.size W w') := Lib.hid fun W hb => right9_any l sc _ W (HMS.out W hb) (lqP p s) HOKX.out false hrp
    have HQ4 : Hid ((lqP p s).val = .agg #[.int .i64 p.ag, .int .i64 p.aa, .int .i64 p.bg, .int .i64 p.ba, .bool p.two, .int .i64 (z : Int), .int .i64 p.lv, .int .i64 p.bi, .int .u64 r.a, .int .u64 r.b, .int .u64 r.c, .int .u64 r.d] ∧ lqP p s = { { p with sz := (z : Int) } with q := r }) := Lib.hid ⟨by rw [HQ.out]; rfl, HQ.out⟩
    rw [HQ4.out.1] at HRT
    clear hgo2 hrx hr1 hr2 hr3 hrp
    go_enter Tryz.func9, Tryz.ntmps9
    go_wp2_with (first | (rw [HW0.out]; fail))
    rw [HW0.out]
    go_wp2_with fail
    refine HDV.out.mono ?_
    rintro e w2 ⟨x, hv, rfl, rfl, h2, c2⟩
    rw [dsTo_none, awTo_none] at h2
    have hbx := boxed w2 (.cells #[.slice x.ga x.gn x.gc, .int .i64 x.sc, .slice (some ⟨x.lb, 0, none⟩) x.n x.n, .slice (some ⟨x.ab, 0, none⟩) x.n x.n] 37)
    have c23 := next c2 hbx
    have HS3 := Lib.hid ((h2.add hbx (BoxX.new w2 x _ (Nat.le_refl _) 37)).mono (Q := BoxX x w2.heap.size) fun w h => h.2)
    have hB0z := HZ0.out
    have HLB3 := Lib.hid (HLB0.out.below c23 (by omega))
    have HC3 := Lib.hid c23
    clear k0 k1 p0 p1 p2 p3 p4 p5 p6 p7 p8 p9 p10 p11 f5 f8 f9 f10 f11
    clear h2 c2 hbx c23 HDV
    obtain ⟨k0, k1, p0, p1, p2, p3, p4, p5, p6, p7, p8, p9, p10, p11, f5, f8, f9, f10, f11⟩ := HLB3.out.f
    unfold Px.val
    obtain ⟨x0, x1, x2, x3⟩ := HS3.out.out
    go_upto_region 4 with (fail)
    obtain ⟨bx, hbx⟩ : ∃ bx, w2.heap.size = bx := ⟨_, rfl⟩
    obtain ⟨w3, hw3⟩ : ∃ w3, w2.alloc (.cells #[.slice x.ga x.gn x.gc, .int .i64 x.sc, .slice (some ⟨x.lb, 0, none⟩) x.n x.n, .slice (some ⟨x.ab, 0, none⟩) x.n x.n] 37) = w3 := ⟨_, rfl⟩
    rw [hw3] at HS3 HLB3 HC3 k0 k1 p0 p1 p2 p3 p4 p5 p6 p7 p8 p9 p10 p11 f5 f8 f9 f10 f11 x0 x1 x2 x3 ⊢
    rw [hbx] at HS3 x0 x1 x2 x3 ⊢
    clear hw3 hbx
    have HLB4 := Lib.hid (HLB3.out.size (z : Int))
    have t4 : Turn (fun k => k = w.heap.size + 1) w3 (w3.setCell ⟨w.heap.size + 1, 5, none⟩ (.int .i64 (z : Int))) := (Turn.refl (fun k => k = w.heap.size + 1) w3).setCell (p := ⟨w.heap.size + 1, 5, none⟩) (.inl rfl) _
    have HS4 := Lib.hid (HS3.out.put1 (by omega) t4)
    have HBw3 : Hid (Below w.heap.size w w3) := Lib.hid (HB0.out.trans (HC3.out.mono HB0.out.size))
    have HBw4 : Hid (Below w.heap.size w (w3.setCell ⟨w.heap.size + 1, 5, none⟩ (.int .i64 (z : Int)))) := Lib.hid (HBw3.out.trans (t4.below (fun k hk => by omega) HBw3.out.size))
    clear t4
    go_wp2_with fail
    refine (HSM2.out _).mono ?_
    rintro e w5 ⟨rfl, c5⟩
    have HS5 := Lib.hid (HS4.out.below c5)
    have HLB5 := Lib.hid (HLB4.out.below c5 (by have := HLB4.out.lt; omega))
    have HBw5 := Lib.hid (next HBw4.out c5)
    clear k0 k1 p0 p1 p2 p3 p4 p5 p6 p7 p8 p9 p10 p11 f5 f8 f9 f10 f11
    clear x0 x1 x2 x3 c5 HS4 HLB4 HBw4 HSM2
    obtain ⟨k0, k1, p0, p1, p2, p3, p4, p5, p6, p7, p8, p9, p10, p11, f5, f8, f9, f10, f11⟩ := HLB5.out.f
    obtain ⟨x0, x1, x2, x3⟩ := HS5.out.out
    have HLB6 := Lib.hid (HLB5.out.sum r)
    have HS6 := Lib.hid (HS5.out.put1 (by omega) (putS_turn w5 w.heap.size r))
    have HBw6 := Lib.hid (HBw5.out.trans ((putS_turn w5 w.heap.size r).below (fun k hk => by omega) HBw5.out.size))
    rw [← HQ4.out.2] at HLB6
    have e6 := HLB6.out.f
    rw [HQ4.out.2] at e6
    obtain ⟨K0, K1, P0, P1, P2, P3, P4, P5, P6, P7, P8, P9, P10, P11, _, _, _, _, _⟩ := e6
    obtain ⟨X0, X1, X2, X3⟩ := HS6.out.out
    unfold putS at K0 K1 P0 P1 P2 P3 P4 P5 P6 P7 P8 P9 P10 P11 X0 X1 X2 X3
    go_wp2_with fail
    refine (HRT.out _ HBw6.out).mono ?_
    rintro e w7 ⟨rfl, c7⟩
    have HS := Lib.hid (HS6.out.below c7)
    have HLB7 := Lib.hid (HLB6.out.below c7 (by have := HLB6.out.lt; omega))
    have HBw7 := Lib.hid (next HBw6.out c7)
    clear k0 k1 p0 p1 p2 p3 p4 p5 p6 p7 p8 p9 p10 p11 f5 f8 f9 f10 f11
    clear x0 x1 x2 x3 c7 HS6 HLB6 HBw6 HS5 HLB5 K0 K1 P0 P1 P2 P3 P4 P5 P6 P7 P8 P9 P10 P11 X0 X1 X2 X3 HRT
    have e7 := HLB7.out.f
    rw [HQ4.out.2] at e7
    obtain ⟨_, _, p0, p1, p2, p3, p4, p5, p6, p7, p8, p9, p10, p11, _, _, _, _, _⟩ := e7
    simp only at p0 p1 p2 p3 p4 p5 p6 p7 p8 p9 p10 p11
    obtain ⟨x0, x1, x2, x3⟩ := HS.out.out
    have u0_ : w7.cell? ⟨w.heap.size + 2, 0, none⟩ = some (.slice none 0 0) := heap_cell HLB7.out.d rfl
    have y0_ : w7.frozen? ⟨w.heap.size + 2, 0, none⟩ = false := heap_frozen HLB7.out.d
    have u1_ : w7.cell? ⟨w.heap.size + 2, 1, none⟩ = some (.int .i64 0) := heap_cell HLB7.out.d rfl
    have y1_ : w7.frozen? ⟨w.heap.size + 2, 1, none⟩ = false := heap_frozen HLB7.out.d
    have u2_ : w7.cell? ⟨w.heap.size + 2, 2, none⟩ = some (.slice none 0 0) := heap_cell HLB7.out.d rfl
    have y2_ : w7.frozen? ⟨w.heap.size + 2, 2, none⟩ = false := heap_frozen HLB7.out.d
    have u3_ : w7.cell? ⟨w.heap.size + 2, 3, none⟩ = some (.slice none 0 0) := heap_cell HLB7.out.d rfl
    have y3_ : w7.frozen? ⟨w.heap.size + 2, 3, none⟩ = false := heap_frozen HLB7.out.d
    have v0_ : w7.cell? ⟨w.heap.size + 3, 0, none⟩ = some (.int .i64 0) := heap_cell HLB7.out.r rfl
    have z0_ : w7.frozen? ⟨w.heap.size + 3, 0, none⟩ = false := heap_frozen HLB7.out.r
    have v1_ : w7.cell? ⟨w.heap.size + 3, 1, none⟩ = some (.int .i64 0) := heap_cell HLB7.out.r rfl
    have z1_ : w7.frozen? ⟨w.heap.size + 3, 1, none⟩ = false := heap_frozen HLB7.out.r
    have v2_ : w7.cell? ⟨w.heap.size + 3, 2, none⟩ = some (.int .i64 0) := heap_cell HLB7.out.r rfl
    have z2_ : w7.frozen? ⟨w.heap.size + 3, 2, none⟩ = false := heap_frozen HLB7.out.r
    have v3_ : w7.cell? ⟨w.heap.size + 3, 3, none⟩ = some (.int .i64 0) := heap_cell HLB7.out.r rfl
    have z3_ : w7.frozen? ⟨w.heap.size + 3, 3, none⟩ = false := heap_frozen HLB7.out.r
    have v4_ : w7.cell? ⟨w.heap.size + 3, 4, none⟩ = some (.bool false) := heap_cell HLB7.out.r rfl
    have z4_ : w7.frozen? ⟨w.heap.size + 3, 4, none⟩ = false := heap_frozen HLB7.out.r
    have v5_ : w7.cell? ⟨w.heap.size + 3, 5, none⟩ = some (.int .i64 0) := heap_cell HLB7.out.r rfl
    have z5_ : w7.frozen? ⟨w.heap.size + 3, 5, none⟩ = false := heap_frozen HLB7.out.r
    have v6_ : w7.cell? ⟨w.heap.size + 3, 6, none⟩ = some (.int .i64 0) := heap_cell HLB7.out.r rfl
    have z6_ : w7.frozen? ⟨w.heap.size + 3, 6, none⟩ = false := heap_frozen HLB7.out.r
    have v7_ : w7.cell? ⟨w.heap.size + 3, 7, none⟩ = some (.int .i64 0) := heap_cell HLB7.out.r rfl
    have z7_ : w7.frozen? ⟨w.heap.size + 3, 7, none⟩ = false := heap_frozen HLB7.out.r
    have v8_ : w7.cell? ⟨w.heap.size + 3, 8, none⟩ = some (.int .u64 0) := heap_cell HLB7.out.r rfl
    have z8_ : w7.frozen? ⟨w.heap.size + 3, 8, none⟩ = false := heap_frozen HLB7.out.r
    have v9_ : w7.cell? ⟨w.heap.size + 3, 9, none⟩ = some (.int .u64 0) := heap_cell HLB7.out.r rfl
    have z9_ : w7.frozen? ⟨w.heap.size + 3, 9, none⟩ = false := heap_frozen HLB7.out.r
    have v10_ : w7.cell? ⟨w.heap.size + 3, 10, none⟩ = some (.int .u64 0) := heap_cell HLB7.out.r rfl
    have z10_ : w7.frozen? ⟨w.heap.size + 3, 10, none⟩ = false := heap_frozen HLB7.out.r
    have v11_ : w7.cell? ⟨w.heap.size + 3, 11, none⟩ = some (.int .u64 0) := heap_cell HLB7.out.r rfl
    have z11_ : w7.frozen? ⟨w.heap.size + 3, 11, none⟩ = false := heap_frozen HLB7.out.r
    obtain ⟨HO1, HO2⟩ := HLB7.out.out (.slice x.ga x.gn x.gc) (.int .i64 x.sc) (.slice (some ⟨x.lb, 0, none⟩) x.n x.n) (.slice (some ⟨x.ab, 0, none⟩) x.n x.n) (.int .i64 p.ag) (.int .i64 p.aa) (.int .i64 p.bg) (.int .i64 p.ba) (.bool p.two) (.int .i64 (z : Int)) (.int .i64 p.lv) (.int .i64 p.bi) (.int .u64 (r.a : Int)) (.int .u64 (r.b : Int)) (.int .u64 (r.c : Int)) (.int .u64 (r.d : Int))
    have e0 := heap_cell (i := 0) HO1 rfl
    have e1 := heap_cell (i := 1) HO1 rfl
    have e2 := heap_cell (i := 2) HO1 rfl
    have e3 := heap_cell (i := 3) HO1 rfl
    have t0 := heap_cell (i := 0) HO2 rfl
    have t1 := heap_cell (i := 1) HO2 rfl
    have t2 := heap_cell (i := 2) HO2 rfl
    have t3 := heap_cell (i := 3) HO2 rfl
    have t4 := heap_cell (i := 4) HO2 rfl
    have t5 := heap_cell (i := 5) HO2 rfl
    have t6 := heap_cell (i := 6) HO2 rfl
    have t7 := heap_cell (i := 7) HO2 rfl
    have t8 := heap_cell (i := 8) HO2 rfl
    have t9 := heap_cell (i := 9) HO2 rfl
    have t10 := heap_cell (i := 10) HO2 rfl
    have t11 := heap_cell (i := 11) HO2 rfl
    unfold putW putV at e0 e1 e2 e3 t0 t1 t2 t3 t4 t5 t6 t7 t8 t9 t10 t11
    clear HO1 HO2
    go_upto_region 7 with (fail)
    go_region
    go_wp2_with fail
    refine bodyPost_ret (v := .tuple #[.agg #[.slice x.ga x.gn x.gc, .int .i64 x.sc, .slice (some ⟨x.lb, 0, none⟩) x.n x.n, .slice (some ⟨x.ab, 0, none⟩) x.n x.n], .agg #[.int .i64 p.ag, .int .i64 p.aa, .int .i64 p.bg, .int .i64 p.ba, .bool p.two, .int .i64 (z : Int), .int .i64 p.lv, .int .i64 p.bi, .int .u64 (r.a : Int), .int .u64 (r.b : Int), .int .u64 (r.c : Int), .int .u64 (r.d : Int)], .slice none 0 0, .bool false]) ?_ rfl ⟨.agg #[.slice x.ga x.gn x.gc, .int .i64 x.sc, .slice (some ⟨x.lb, 0, none⟩) x.n x.n, .slice (some ⟨x.ab, 0, none⟩) x.n x.n], { { p with sz := (z : Int) } with q := r }, by rfl, ?_, ?_⟩
    · simp [results, Tryz.results9, go_sem, e0, e1, e2, e3, t0, t1, t2, t3, t4, t5, t6, t7, t8, t9, t10, t11]
    · refine .inr ⟨x, l, _, _, _, rfl, ((HS.out.old (w' := (putW (putV w7 w.heap.size (.slice x.ga x.gn x.gc) (.int .i64 x.sc) (.slice (some ⟨x.lb, 0, none⟩) x.n x.n) (.slice (some ⟨x.ab, 0, none⟩) x.n x.n)) w.heap.size (.int .i64 p.ag) (.int .i64 p.aa) (.int .i64 p.bg) (.int .i64 p.ba) (.bool p.two) (.int .i64 (z : Int)) (.int .i64 p.lv) (.int .i64 p.bi) (.int .u64 (r.a : Int)) (.int .u64 (r.b : Int)) (.int .u64 (r.c : Int)) (.int .u64 (r.d : Int))).drew) ?_).mono (Q := fun _ => True) fun _ _ => trivial).lower (B' := w.heap.size) (by omega)⟩
      exact (((putV_turn w7 w.heap.size (.slice x.ga x.gn x.gc) (.int .i64 x.sc) (.slice (some ⟨x.lb, 0, none⟩) x.n x.n) (.slice (some ⟨x.ab, 0, none⟩) x.n x.n)).mono (fun k hk => by omega)).trans ((putW_turn (putV w7 w.heap.size (.slice x.ga x.gn x.gc) (.int .i64 x.sc) (.slice (some ⟨x.lb, 0, none⟩) x.n x.n) (.slice (some ⟨x.ab, 0, none⟩) x.n x.n)) w.heap.size (.int .i64 p.ag) (.int .i64 p.aa) (.int .i64 p.bg) (.int .i64 p.ba) (.bool p.two) (.int .i64 (z : Int)) (.int .i64 p.lv) (.int .i64 p.bi) (.int .u64 (r.a : Int)) (.int .u64 (r.b : Int)) (.int .u64 (r.c : Int)) (.int .u64 (r.d : Int))).mono (fp' := fun k => k < W0.heap.size) (fun k hk => by omega)) fun k hk => .inl hk).trans (Turn.of_below (fp := fun k => k < W0.heap.size) (Below.refl _ _).drew) fun k hk => .inl hk
    · exact HBw7.out.trans ((((putV_turn w7 w.heap.size _ _ _ _).below (fun k hk => by omega) HBw7.out.size).trans ((putW_turn _ w.heap.size _ _ _ _ _ _ _ _ _ _ _ _).below (fun k hk => by omega) (by have := (putV_turn w7 w.heap.size (.slice x.ga x.gn x.gc) (.int .i64 x.sc) (.slice (some ⟨x.lb, 0, none⟩) x.n x.n) (.slice (some ⟨x.ab, 0, none⟩) x.n x.n)).size; have := HBw7.out.size; omega))).drew)
end Go.Proofs.YtiffkbmcikiioaaGreat
