/-
  The document's Of (polderref06), of a Parity.
-/
import Derived.Test.YtiffkbmcikiioaaGreatY34
import Derived.Lib.AppendZeros

/- The document's Of (polderref06), of a Parity. -/
namespace Go.Proofs.YtiffkbmcikiioaaGreat
set_option maxRecDepth 100000
open Go.RowKit

theorem step_append_run {P : Program} {ops : Array Oper} {o : Oper} {a : Act} {w : World} {K : Act → World → Prop} {Q : Exit → Act → World → Prop} {E : Prop} (hg : o.guard = none) (s x : Operand) (t : TypeId)
    (hop : o.op = Op.call { callee := Callee.builtin Builtin.append, args := #[s, x], argTypes := #[t, t] }) (v xv : Value) (hs : a.eval s = v) (hx : a.eval x = xv) (r : Value) (w' : World)
    (hr : (Builtin.append_ #[t, t] o.type #[v, xv]).run P w = .ok r w') (hK : K (a.put o.dst r) w') : if Region.wanted o (yielded ops a.tmps) = true then Oper.wp P o a w K Q else E := by
  have hw : Region.wanted o (yielded ops a.tmps) = true := by simp [Region.wanted, hg]
  rw [if_pos hw]
  exact Lib.wp_append_run w s x t t hop v xv hs hx r w' hr hK
theorem app_col (w : World) (B : Nat) (v : Value) (l : List C) (c : C) (g c' : Nat) (ty : TypeId) (hv : OwnC B w v l) (hc : IsC w g 0 c) (hB : B ≤ w.heap.size) (hN : l.length ≤ 100000) :
    ∃ v' w', (Builtin.append_ #[66, 66] ty #[v, .slice (some ⟨g, 0, none⟩) 1 c']).run Tryz.prog w = .ok v' w' ∧ OwnC B w' v' (l ++ [c]) ∧ Below B w w' := by
  obtain ⟨i, hi, hz, hsz, hb⟩ := info_col
  obtain ⟨v', w', h1, h2, h3, _⟩ := run_append_own_at (P := Tryz.prog) w B 66 ty 75 i _ 4 32 Tryz.underlying66 hi hz hsz hb rfl (by decide) v l.length (flatC l) hv ⟨g, 0, none⟩ 1 c' (C.cells c) rfl
    (fun j u hj => by
      have hlt : j < 4 := (List.getElem?_eq_some_iff.1 hj).1
      rw [Go.WideShapes.add_plain, ← hj]
      exact hc.get j hlt) (fun u hu => flatC_one [c] u (by simpa [flatC] using hu)) (by unfold maxLen; omega) (by omega) hB
  refine ⟨v', w', h1, ?_, (Below.refl B w).grown h3 hB fun k hk => (World.ownsRow.lt hv k hk).1⟩
  unfold OwnC
  rw [List.length_append, flatC_app]
  have e : flatC [c] = C.cells c := by simp [flatC]
  rw [e]
  exact h2

set_option maxHeartbeats 2000000 in
theorem refOf_par (l : List (Int × Int)) (s : Int) (v : Value) (w : World) (h : Meas w v l s) (hr : RightM l s) (k : Nat) (hk : k < l.length) (u : Nat) (hu : l[k] = (1, (u : Int))) (t : Nat) (t1 : t ≤ 40000) (z : Nat) (z4 : z ≤ 4) :
    Calls Tryz.prog 23 #[v, .agg #[.int .i64 (k : Int), .int .i64 (t : Int)], .int .i64 (z : Int)] w fun e w' => ∃ v', e = .returned v' ∧ OwnC w.heap.size w' v' (parTo (aheadL l k) t u z) ∧ Below w.heap.size w w' := by
  obtain ⟨a, n, c, rfl, hg⟩ := id h
  have hn := hg.1.2.1
  have hn4 : n ≤ 4 := by rw [← hn]; exact hr.few
  have hkn : k < n := by rw [← hn]; exact hk
  obtain ⟨uu1, uu8⟩ : 3 ≤ u ∧ u ≤ 8 := by
    have := hr.all k hk
    rw [hu] at this
    rcases okG_cases this with ⟨h1, _⟩ | ⟨_, h1, h2⟩
    · omega
    · omega
  obtain ⟨f, hf⟩ : ∃ f, aheadL l k = f := ⟨_, rfl⟩
  have hfb := hr.bounds k (Nat.le_of_lt hk)
  rw [hf] at hfb ⊢
  have f0 : 0 ≤ f := by omega
  have f1 : f ≤ 32 := by omega
  have K1 := Lib.hid (HeldP.start (k : Int) (t : Int) h)
  have HR := Lib.hid hr
  have HL : Hid (∃ hk : k < l.length, l[k] = (1, (u : Int))) := Lib.hid ⟨hk, hu⟩
  have HF := Lib.hid hf
  have c0 := K1.out.h.c0
  have c1 := K1.out.h.c1
  have p0 := K1.out.p0
  obtain ⟨g, o, rfl, hlt, e0, e1⟩ := K1.out.h.at_ HL.out.1 HL.out.2
  dsimp only at e0 e1
  have hb1 := K1.out.h.lt
  have hb2 := K1.out.plt
  clear h hg hr hn hf hfb hu hk
  go_enter Tryz.func23, Tryz.ntmps23
  go_upto_region 2 with (fail)
  generalize (w.alloc (.cells #[.slice (some ⟨g, o, none⟩) n c, .int .i64 s] 24)).alloc (.cells #[.int .i64 (k : Int), .int .i64 (t : Int)] 26) = W1 at *
  have K2 := Lib.hid (K1.out.next (boxed W1 (.cells #[.int .i64 1, .int .i64 (u : Int)] 53)))
  have hx := Lib.hid (new_pair W1 (.int .i64 1) (.int .i64 (u : Int)) 53)
  have hxs : W1.heap.size < (W1.alloc (.cells #[.int .i64 1, .int .i64 (u : Int)] 53)).heap.size := by simp
  go_wp2_with fail
  refine (refFirst_any l s _ _ K2.out.h.m HR.out k (Nat.le_of_lt HL.out.1) f HF.out).mono ?_
  rintro e w1 ⟨rfl, b1⟩
  have K3 := Lib.hid (K2.out.next b1)
  have hx0 := (b1.cell (p := ⟨W1.heap.size, 0, none⟩) hxs).trans hx.out.1
  have HX1 := Lib.hid ((b1.cell (p := ⟨W1.heap.size, 1, none⟩) hxs).trans hx.out.2)
  have hxl : W1.heap.size < w1.heap.size := Nat.lt_of_lt_of_le hxs b1.size
  have hW : w.heap.size ≤ w1.heap.size := K3.out.h.below.size
  have q1 := K3.out.p1
  clear c0 c1 p0 e0 e1 hb1 hb2 hlt b1 hx hxs K1 K2
  generalize W1.heap.size = bx at *
  obtain ⟨p, hp⟩ : ∃ p : Nat, (u : Int) - 1 = (p : Int) := ⟨u - 1, by omega⟩
  have HPu : Hid (u - 1 = p) := Lib.hid (by omega)
  have pp2 : 2 ≤ p := by omega
  have pp7 : p ≤ 7 := by omega
  go_wp2_with fail
  clear hx0 q1
  go_loopw [2, 7, 12, 13] (fun i2 t7 i12 i13 wr => ∃ m k r A : Nat, m + k = z ∧ A ≤ 50000 ∧ r ≤ 4 ∧ i2 = .int .i64 (m : Int) ∧ i12 = .int .i64 (A : Int) ∧ i13 = .int .i64 (r : Int) ∧ Hid (k = r * p ∨ m = 0) ∧ Hid (A = t + (parTo f t u k).length) ∧ Hid (r ≤ k) ∧ Hid (OwnC w1.heap.size wr t7 (parTo f t u k)) ∧ Hid (Below w1.heap.size w1 wr)) (fun i _ _ _ _ => (intOf i).toNat)
  case atStart => exact ⟨z, 0, 0, t, by omega, by omega, by omega, rfl, rfl, rfl, Lib.hid (.inl (by simp)), Lib.hid rfl, Lib.hid (Nat.le_refl _), Lib.hid (OwnC.nil _ _), Lib.hid (Below.refl _ _)⟩
  case round =>
    obtain ⟨m, k', r, A, hmk, hA, hr4, rfl, rfl, rfl, HKR, HA, HRK, HO, HB⟩ := hrel
    have x1 := (HB.out.cell (p := ⟨bx, 1, none⟩) hxl).trans HX1.out
    by_cases hm0 : 0 < m
    · have HKR' : Hid (k' = r * p) := Lib.hid (by
        rcases HKR.out with h | h
        · exact h
        · omega)
      have m4 : m ≤ 4 := by omega
      by_cases hpm : p < m
      · have hpm' : (p : Int) < (m : Int) := by omega
        have HNN : Hid (p = p ∨ p = m) := Lib.hid (by omega)
        have hn1 : 1 ≤ p := by omega
        go_wp2_with fail
        go_loopw [7, 12, 15] (fun t7 i12 i15 wr => ∃ j A : Nat, j ≤ p + 1 ∧ A ≤ 60000 ∧ i15 = .int .i64 (j : Int) ∧ i12 = .int .i64 (A : Int) ∧ Hid (A = t + (parMid f t u k' r j).length) ∧ Hid (OwnC w1.heap.size wr t7 (parMid f t u k' r j)) ∧ Hid (Below w1.heap.size w1 wr)) (fun _ _ i _ => p + 1 - (intOf i).toNat)
        case atStart => exact ⟨0, A, Nat.zero_le _, by omega, rfl, rfl, HA, HO, HB⟩
        case round =>
          obtain ⟨j, B, hj, hB6, rfl, rfl, HBL, HOj, HBj⟩ := hrel
          clear x1
          have x1 := (HBj.out.cell (p := ⟨bx, 1, none⟩) hxl).trans HX1.out
          by_cases hjn : j ≤ p
          · have hup : 0 < u := by omega
            have hq1 := Nat.mod_lt B hup
            have hq2 := Nat.div_le_self B u
            obtain ⟨qm, hqm⟩ : ∃ qm : Nat, (B : Int) % (u : Int) = (qm : Int) := ⟨B % u, by simp⟩
            obtain ⟨qd, hqd⟩ : ∃ qd : Nat, (B : Int) / (u : Int) = (qd : Int) := ⟨B / u, by simp⟩
            have HQM : Hid (B % u = qm) := Lib.hid (by have : ((B % u : Nat) : Int) = (qm : Int) := by rw [← hqm]; simp
                                                       omega)
            have HQD : Hid (B / u = qd) := Lib.hid (by have : ((B / u : Nat) : Int) = (qd : Int) := by rw [← hqd]; simp
                                                       omega)
            have hqm8 : qm ≤ 8 := by have := HQM.out; omega
            have hqd8 : qd ≤ 60000 := by have := HQD.out; omega
            clear hq1 hq2
            have HST := Lib.hid (parMid_step f t u k' r j (by have := HPu.out; omega) (by rw [HPu.out]; exact HKR'.out) (by rw [HPu.out]; omega))
            have HC : Hid (colP f u (t + (parMid f t u k' r j).length) r (decide (j = 0)) = ⟨f + (qm : Int), 16 + (qd : Int), decide (j = 0), (r : Int)⟩) := Lib.hid (by rw [← HBL.out]; unfold colP; rw [HQM.out, HQD.out])
            have HLE : Hid ((parMid f t u k' r j).length ≤ 100000) := Lib.hid (Nat.le_trans (parMid_len f t u k' r j) (by omega))
            have hsz := HBj.out.size
            have hB5 : B + 1 ≤ 60000 := by have h1 := HBL.out; have h2 := parMid_len f t u k' r j; omega
            have i1 : IntKind.i64.wrap (f + (qm : Int)) = f + (qm : Int) := by rw [IntKind.wrap_i64]; omega
            have i2 : IntKind.i64.wrap (16 + (qd : Int)) = 16 + (qd : Int) := by rw [IntKind.wrap_i64]; omega
            have i3 : IntKind.i64.wrap (16 : Int) = 16 := by decide
            have i4 : ((u : Int) == 0) = false := by simp; omega
            have i9 : ¬ (u : Int) = 0 := by omega
            have i10 : ¬ u = 0 := by omega
            have i5 : IntKind.i64.wrap (qm : Int) = (qm : Int) := by rw [IntKind.wrap_i64]; omega
            have i6 : IntKind.i64.wrap (qd : Int) = (qd : Int) := by rw [IntKind.wrap_i64]; omega
            have i7 : Int.tmod (B : Int) (u : Int) = (qm : Int) := by rw [Int.tmod_eq_emod_of_nonneg (by omega)]; exact hqm
            have i8 : Int.tdiv (B : Int) (u : Int) = (qd : Int) := by rw [Int.tdiv_eq_ediv_of_nonneg (by omega)]; exact hqd
            obtain ⟨bj, hbj⟩ : ∃ bj, ((j : Int) == 0) = bj := ⟨_, rfl⟩
            have HBJ : Hid (decide (j = 0) = bj) := Lib.hid (by rw [← hbj, Bool.eq_iff_iff, decide_eq_true_iff, beq_iff_eq]; omega)
            rw [HBJ.out] at HC HST
            go_wp2_with fail
            have HAPP : Hid (∀ ty, ∃ v3 w3, (Builtin.append_ #[66, 66] ty #[u7, .slice (some ⟨wr.heap.size, 0, none⟩) 1 1]).run Tryz.prog (wr.alloc (.cells #[.int .i64 (f + (qm : Int)), .int .i64 (16 + (qd : Int)), .bool bj, .int .i64 (r : Int)] 75)).drew = .ok v3 w3 ∧ OwnC w1.heap.size w3 v3 (parMid f t u k' r j ++ [⟨f + (qm : Int), 16 + (qd : Int), bj, (r : Int)⟩]) ∧ Below w1.heap.size (wr.alloc (.cells #[.int .i64 (f + (qm : Int)), .int .i64 (16 + (qd : Int)), .bool bj, .int .i64 (r : Int)] 75)).drew w3) :=
              Lib.hid fun ty => app_col _ w1.heap.size u7 _ ⟨f + (qm : Int), 16 + (qd : Int), bj, (r : Int)⟩ wr.heap.size 1 ty ((HOj.out.below (boxed _ _)).below (Below.refl _ _).drew) ⟨by simp, by simp, by simp, by simp⟩ (by simp; omega) HLE.out
            have hlx : bx < wr.heap.size := Nat.lt_of_lt_of_le hxl hsz
            go_region_held3 (fun W => W.cell? ⟨bx, 1, none⟩ = some (.int .i64 (u : Int)))
              (first | exact x1 | exact y1 | exact (((boxed wr _).cell (p := ⟨bx, 1, none⟩) hlx)).trans x1 | exact ((((boxed wr _).drew).cell (p := ⟨bx, 1, none⟩) hlx)).trans x1)
              (first | (obtain ⟨v3, w3, ea, hown3, hb3⟩ := HAPP.out 66; have y1 : w3.cell? ⟨bx, 1, none⟩ = some (.int .i64 (u : Int)) := (hb3.cell (p := ⟨bx, 1, none⟩) hxl).trans (((((boxed wr _).drew).cell (p := ⟨bx, 1, none⟩) hlx)).trans x1); refine step_append_run rfl _ _ _ rfl _ _ rfl rfl _ _ ea ?_))
            all_goals
              have HO3 := Lib.hid hown3
              have HB3 := Lib.hid hb3
              clear hown3 hb3
              go_wp2
              go_roundw
              case rel =>
                refine ⟨j + 1, B + 1, by omega, by omega, by go_num, by go_num, Lib.hid ?_, Lib.hid ?_, Lib.hid ((grows_alloc HBj.out _).drew.trans HB3.out)⟩
                · rw [HST.out, List.length_append]; have := HBL.out; simp; omega
                · rw [HST.out, HC.out]; exact HO3.out
              case measure => simp [intOf]; omega
          · obtain rfl : j = p + 1 := by omega
            obtain ⟨q, hq⟩ : ∃ q, p = q + 1 := ⟨p - 1, by omega⟩
            have HPM : Hid (parMid f t u k' r (p + 1) = parTo f t u (k' + p)) := Lib.hid (by rw [hq]; rfl)
            clear hq
            go_wp2
            go_roundw
            case rel =>
              refine ⟨m - p, k' + p, r + 1, B, by omega, by have h1 := HBL.out; have h2 := parMid_len f t u k' r (p + 1); omega, by have := HRK.out; omega, by go_num, rfl, by go_num, Lib.hid ?_, Lib.hid (by rw [← HPM.out]; exact HBL.out), Lib.hid (by have := HRK.out; omega), Lib.hid (by rw [← HPM.out]; exact HOj.out), HBj⟩
              left; rw [Nat.add_mul, Nat.one_mul, ← HKR'.out]
            case measure => simp [intOf]; omega
      · have hpm' : ¬ (p : Int) < (m : Int) := by omega
        have HNN : Hid (m = p ∨ m = m) := Lib.hid (by omega)
        have hn1 : 1 ≤ m := by omega
        go_wp2_with fail
        go_loopw [7, 12, 15] (fun t7 i12 i15 wr => ∃ j A : Nat, j ≤ m + 1 ∧ A ≤ 60000 ∧ i15 = .int .i64 (j : Int) ∧ i12 = .int .i64 (A : Int) ∧ Hid (A = t + (parMid f t u k' r j).length) ∧ Hid (OwnC w1.heap.size wr t7 (parMid f t u k' r j)) ∧ Hid (Below w1.heap.size w1 wr)) (fun _ _ i _ => m + 1 - (intOf i).toNat)
        case atStart => exact ⟨0, A, Nat.zero_le _, by omega, rfl, rfl, HA, HO, HB⟩
        case round =>
          obtain ⟨j, B, hj, hB6, rfl, rfl, HBL, HOj, HBj⟩ := hrel
          clear x1
          have x1 := (HBj.out.cell (p := ⟨bx, 1, none⟩) hxl).trans HX1.out
          by_cases hjn : j ≤ m
          · have hup : 0 < u := by omega
            have hq1 := Nat.mod_lt B hup
            have hq2 := Nat.div_le_self B u
            obtain ⟨qm, hqm⟩ : ∃ qm : Nat, (B : Int) % (u : Int) = (qm : Int) := ⟨B % u, by simp⟩
            obtain ⟨qd, hqd⟩ : ∃ qd : Nat, (B : Int) / (u : Int) = (qd : Int) := ⟨B / u, by simp⟩
            have HQM : Hid (B % u = qm) := Lib.hid (by have : ((B % u : Nat) : Int) = (qm : Int) := by rw [← hqm]; simp
                                                       omega)
            have HQD : Hid (B / u = qd) := Lib.hid (by have : ((B / u : Nat) : Int) = (qd : Int) := by rw [← hqd]; simp
                                                       omega)
            have hqm8 : qm ≤ 8 := by have := HQM.out; omega
            have hqd8 : qd ≤ 60000 := by have := HQD.out; omega
            clear hq1 hq2
            have HST := Lib.hid (parMid_step f t u k' r j (by have := HPu.out; omega) (by rw [HPu.out]; exact HKR'.out) (by rw [HPu.out]; omega))
            have HC : Hid (colP f u (t + (parMid f t u k' r j).length) r (decide (j = 0)) = ⟨f + (qm : Int), 16 + (qd : Int), decide (j = 0), (r : Int)⟩) := Lib.hid (by rw [← HBL.out]; unfold colP; rw [HQM.out, HQD.out])
            have HLE : Hid ((parMid f t u k' r j).length ≤ 100000) := Lib.hid (Nat.le_trans (parMid_len f t u k' r j) (by omega))
            have hsz := HBj.out.size
            have hB5 : B + 1 ≤ 60000 := by have h1 := HBL.out; have h2 := parMid_len f t u k' r j; omega
            have i1 : IntKind.i64.wrap (f + (qm : Int)) = f + (qm : Int) := by rw [IntKind.wrap_i64]; omega
            have i2 : IntKind.i64.wrap (16 + (qd : Int)) = 16 + (qd : Int) := by rw [IntKind.wrap_i64]; omega
            have i3 : IntKind.i64.wrap (16 : Int) = 16 := by decide
            have i4 : ((u : Int) == 0) = false := by simp; omega
            have i9 : ¬ (u : Int) = 0 := by omega
            have i10 : ¬ u = 0 := by omega
            have i5 : IntKind.i64.wrap (qm : Int) = (qm : Int) := by rw [IntKind.wrap_i64]; omega
            have i6 : IntKind.i64.wrap (qd : Int) = (qd : Int) := by rw [IntKind.wrap_i64]; omega
            have i7 : Int.tmod (B : Int) (u : Int) = (qm : Int) := by rw [Int.tmod_eq_emod_of_nonneg (by omega)]; exact hqm
            have i8 : Int.tdiv (B : Int) (u : Int) = (qd : Int) := by rw [Int.tdiv_eq_ediv_of_nonneg (by omega)]; exact hqd
            obtain ⟨bj, hbj⟩ : ∃ bj, ((j : Int) == 0) = bj := ⟨_, rfl⟩
            have HBJ : Hid (decide (j = 0) = bj) := Lib.hid (by rw [← hbj, Bool.eq_iff_iff, decide_eq_true_iff, beq_iff_eq]; omega)
            rw [HBJ.out] at HC HST
            go_wp2_with fail
            have HAPP : Hid (∀ ty, ∃ v3 w3, (Builtin.append_ #[66, 66] ty #[u7, .slice (some ⟨wr.heap.size, 0, none⟩) 1 1]).run Tryz.prog (wr.alloc (.cells #[.int .i64 (f + (qm : Int)), .int .i64 (16 + (qd : Int)), .bool bj, .int .i64 (r : Int)] 75)).drew = .ok v3 w3 ∧ OwnC w1.heap.size w3 v3 (parMid f t u k' r j ++ [⟨f + (qm : Int), 16 + (qd : Int), bj, (r : Int)⟩]) ∧ Below w1.heap.size (wr.alloc (.cells #[.int .i64 (f + (qm : Int)), .int .i64 (16 + (qd : Int)), .bool bj, .int .i64 (r : Int)] 75)).drew w3) :=
              Lib.hid fun ty => app_col _ w1.heap.size u7 _ ⟨f + (qm : Int), 16 + (qd : Int), bj, (r : Int)⟩ wr.heap.size 1 ty ((HOj.out.below (boxed _ _)).below (Below.refl _ _).drew) ⟨by simp, by simp, by simp, by simp⟩ (by simp; omega) HLE.out
            have hlx : bx < wr.heap.size := Nat.lt_of_lt_of_le hxl hsz
            go_region_held3 (fun W => W.cell? ⟨bx, 1, none⟩ = some (.int .i64 (u : Int)))
              (first | exact x1 | exact y1 | exact (((boxed wr _).cell (p := ⟨bx, 1, none⟩) hlx)).trans x1 | exact ((((boxed wr _).drew).cell (p := ⟨bx, 1, none⟩) hlx)).trans x1)
              (first | (obtain ⟨v3, w3, ea, hown3, hb3⟩ := HAPP.out 66; have y1 : w3.cell? ⟨bx, 1, none⟩ = some (.int .i64 (u : Int)) := (hb3.cell (p := ⟨bx, 1, none⟩) hxl).trans (((((boxed wr _).drew).cell (p := ⟨bx, 1, none⟩) hlx)).trans x1); refine step_append_run rfl _ _ _ rfl _ _ rfl rfl _ _ ea ?_))
            all_goals
              have HO3 := Lib.hid hown3
              have HB3 := Lib.hid hb3
              clear hown3 hb3
              go_wp2
              go_roundw
              case rel =>
                refine ⟨j + 1, B + 1, by omega, by omega, by go_num, by go_num, Lib.hid ?_, Lib.hid ?_, Lib.hid ((grows_alloc HBj.out _).drew.trans HB3.out)⟩
                · rw [HST.out, List.length_append]; have := HBL.out; simp; omega
                · rw [HST.out, HC.out]; exact HO3.out
              case measure => simp [intOf]; omega
          · obtain rfl : j = m + 1 := by omega
            obtain ⟨q, hq⟩ : ∃ q, m = q + 1 := ⟨m - 1, by omega⟩
            have HPM : Hid (parMid f t u k' r (m + 1) = parTo f t u (k' + m)) := Lib.hid (by rw [hq]; rfl)
            clear hq
            go_wp2
            go_roundw
            case rel =>
              refine ⟨m - m, k' + m, r + 1, B, by omega, by have h1 := HBL.out; have h2 := parMid_len f t u k' r (m + 1); omega, by have := HRK.out; omega, by go_num, rfl, by go_num, Lib.hid ?_, Lib.hid (by rw [← HPM.out]; exact HBL.out), Lib.hid (by have := HRK.out; omega), Lib.hid (by rw [← HPM.out]; exact HOj.out), HBj⟩
              right; omega
            case measure => simp [intOf]; omega
    · obtain rfl : m = 0 := by omega
      obtain rfl : k' = z := by omega
      go_wp2
      go_ret
      exact ⟨_, rfl, HO.out.lower hW, next K3.out.h.below HB.out⟩
end Go.Proofs.YtiffkbmcikiioaaGreat
