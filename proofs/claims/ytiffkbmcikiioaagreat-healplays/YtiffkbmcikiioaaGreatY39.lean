/-
  ptr.None, Less: what they answer; two pointers compared.
  ptr.stands, apart, Right: what they answer.
  ptr.Right: what it answers.
  ptr.Places: what it answers.
-/
import Derived.Test.YtiffkbmcikiioaaGreatY11

/- ptr.None, Less: what they answer; two pointers compared. -/
namespace Go.Proofs.YtiffkbmcikiioaaGreat
set_option maxRecDepth 100000
open Go.RowKit M

theorem eq4_nat (a b c d a' b' c' d' : Nat) : eq4 (a : Int) b c d a' b' c' d' = decide (a = a' ∧ b = b' ∧ c = c' ∧ d = d') := by
  by_cases h : a = a' ∧ b = b' ∧ c = c' ∧ d = d'
  · rw [decide_eq_true h]; obtain ⟨rfl, rfl, rfl, rfl⟩ := h; exact eq4_true rfl rfl rfl rfl
  · rw [decide_eq_false h]; exact eq4_false (by omega)
theorem ptr_equal (p r : Ptr) (w : World) : (Op.equalIn 10000 31 (.agg p.cells) (.agg r.cells)).run Tryz.prog w = .ok (eqP p r) w := by
  have hS : Tryz.prog.underlying 31 = some (.struct (Tryz.prog.fieldsOf 31)) := by kernel_rfl
  have hp : Tryz.prog.stoodInHeld 31 = false := by kernel_rfl
  have hS2 : Tryz.prog.underlying 26 = some (.struct (Tryz.prog.fieldsOf 26)) := by kernel_rfl
  have hp2 : Tryz.prog.stoodInHeld 26 = false := by kernel_rfl
  obtain ⟨p0, p1, p2, p3, p4, p5, p6, p7, p8, p9, p10, p11⟩ := p
  obtain ⟨r0, r1, r2, r3, r4, r5, r6, r7, r8, r9, r10, r11⟩ := r
  have he := sum_equal9
  rw [run_equalIn_struct w 9999 31 _ _ hS hp]
  simp [Ptr.cells, go_sem, Program.fieldsOf, Tryz.underlying31, Op.eqFields, part, he]
  by_cases h0 : p0 = r0
  · by_cases h1 : p1 = r1
    · by_cases h2 : p2 = r2
      · by_cases h3 : p3 = r3
        · by_cases h4 : p4 = r4
          · by_cases h5 : p5 = r5
            · by_cases h6 : p6 = r6
              · by_cases h7 : p7 = r7
                · rw [eq4_nat]
                  subst h0 h1 h2 h3 h4 h5 h6 h7
                  by_cases h8 : p8 = r8 ∧ p9 = r9 ∧ p10 = r10 ∧ p11 = r11
                  · rw [decide_eq_true h8]; obtain ⟨h8, h9, h10, h11⟩ := h8; subst h8 h9 h10 h11; simp [eqP]
                  · rw [decide_eq_false h8]
                    have e : eqP ⟨p0, p1, p2, p3, p4, p5, p6, p7, ⟨p8, p9, p10, p11⟩⟩ ⟨p0, p1, p2, p3, p4, p5, p6, p7, ⟨r8, r9, r10, r11⟩⟩ = false := by
                      rw [eqP]; exact decide_eq_false (fun h => h8 h.2.2.2.2.2.2.2.2)
                    rw [e]; simp
                · simp [eqP, h7]
              · simp [eqP, h6]
            · simp [eqP, h5]
          · simp [eqP, h4]
        · simp [eqP, h3]
      · simp [eqP, h2]
    · simp [eqP, h1]
  · simp [eqP, h0]

theorem ptr_eql (p r : Ptr) (w : World) : (binOp .eql 31 (.agg p.cells) (.agg r.cells)).run Tryz.prog w = .ok (.bool (eqP p r)) w := by
  rw [run_eql_struct, ptr_equal]; rfl
theorem ptr_neq (p r : Ptr) (w : World) : (binOp .neq 31 (.agg p.cells) (.agg r.cells)).run Tryz.prog w = .ok (.bool (!eqP p r)) w := by
  rw [run_neq_struct, ptr_equal]; rfl

theorem exec_eql (ρ : Operand → Value) (o : Oper) (x y : Operand) (z : TypeId) (p r : Ptr) (w : World) (ho : o.op = .binOp .eql 31 x y z) (hx : ρ x = .agg p.cells) (hy : ρ y = .agg r.cells) :
    (execOp ρ o).run Tryz.prog w = .ok (.value (.bool (eqP p r))) w := by
  have hg := ptr_guard
  simp only [execOp, ho, hx, hy, Sem.run_bind, run_eqGuard_agg w .eql _ x y _ _ hg, Result.andThen_ok, ptr_eql, Sem.run_pure]
theorem exec_neq (ρ : Operand → Value) (o : Oper) (x y : Operand) (z : TypeId) (p r : Ptr) (w : World) (ho : o.op = .binOp .neq 31 x y z) (hx : ρ x = .agg p.cells) (hy : ρ y = .agg r.cells) :
    (execOp ρ o).run Tryz.prog w = .ok (.value (.bool (!eqP p r))) w := by
  have hg := ptr_guard
  simp only [execOp, ho, hx, hy, Sem.run_bind, run_eqGuard_agg w .neq _ x y _ _ hg, Result.andThen_ok, ptr_neq, Sem.run_pure]
section
variable {ops : Array Oper} {rest : List Oper} {o : Oper} {a : Act} {Q : Exit → Act → World → Prop} {w : World} {d : Nat} {x y : Operand} {z : TypeId}
/-- Two pointers compared, in a walk: the slots' values are named. -/
theorem wpList_eql (hgd : o.guard = none) (ho : o.op = .binOp .eql 31 x y z) (p r : Ptr) (hx : a.eval x = .agg p.cells) (hy : a.eval y = .agg r.cells) (b : Bool) (hb : eqP p r = b)
    (h : wpList Tryz.prog ops Q rest (a.put o.dst (.bool b)) w) : wpList Tryz.prog ops Q (o :: rest) a w :=
  wpList_plain hgd fun _ hK => by
    show o.upon _ _ _ _ _
    rw [exec_eql _ o x y z p r w ho hx hy, hb]
    exact hK _ _ h
theorem wpList_neq_on (hgd : Region.wanted o (yielded ops a.tmps) = true) (ho : o.op = .binOp .neq 31 x y z) (p r : Ptr) (hx : a.eval x = .agg p.cells) (hy : a.eval y = .agg r.cells) (b : Bool) (hb : eqP p r = b)
    (h : wpList Tryz.prog ops Q rest (a.put o.dst (.bool (!b))) w) : wpList Tryz.prog ops Q (o :: rest) a w :=
  wpList_step fun _ hK => by
    rw [if_pos hgd]
    show o.upon _ _ _ _ _
    rw [exec_neq _ o x y z p r w ho hx hy, hb]
    exact hK _ _ h
theorem wpList_eql_on (hgd : Region.wanted o (yielded ops a.tmps) = true) (ho : o.op = .binOp .eql 31 x y z) (p r : Ptr) (hx : a.eval x = .agg p.cells) (hy : a.eval y = .agg r.cells) (b : Bool) (hb : eqP p r = b)
    (h : wpList Tryz.prog ops Q rest (a.put o.dst (.bool b)) w) : wpList Tryz.prog ops Q (o :: rest) a w :=
  wpList_step fun _ hK => by
    rw [if_pos hgd]
    show o.upon _ _ _ _ _
    rw [exec_eql _ o x y z p r w ho hx hy, hb]
    exact hK _ _ h
/-- .. in a region that draws its order. -/
theorem wpQuiet_eql {C : World → Prop} {Q : Act → Prop} (hgd : Region.wanted o (yielded ops a.tmps) = true) (ho : o.op = .binOp .eql 31 x y z) (p r : Ptr) (hx : a.eval x = .agg p.cells) (hy : a.eval y = .agg r.cells) (b : Bool) (hb : eqP p r = b)
    (h : wpQuiet Tryz.prog ops C Q rest (a.put o.dst (.bool b))) : wpQuiet Tryz.prog ops C Q (o :: rest) a :=
  wpQuiet_step fun _ hK => by
    rw [if_pos hgd]
    refine ⟨.bool b, fun w _ => ?_, hK _ h⟩
    show Oper.quietUpon _ _ _ _ _
    rw [exec_eql _ o x y z p r w ho hx hy, hb]
    exact ⟨rfl, rfl⟩
theorem wpQuiet_neq {C : World → Prop} {Q : Act → Prop} (hgd : Region.wanted o (yielded ops a.tmps) = true) (ho : o.op = .binOp .neq 31 x y z) (p r : Ptr) (hx : a.eval x = .agg p.cells) (hy : a.eval y = .agg r.cells) (b : Bool) (hb : eqP p r = b)
    (h : wpQuiet Tryz.prog ops C Q rest (a.put o.dst (.bool (!b)))) : wpQuiet Tryz.prog ops C Q (o :: rest) a :=
  wpQuiet_step fun _ hK => by
    rw [if_pos hgd]
    refine ⟨.bool (!b), fun w _ => ?_, hK _ h⟩
    show Oper.quietUpon _ _ _ _ _
    rw [exec_neq _ o x y z p r w ho hx hy, hb]
    exact ⟨rfl, rfl⟩
end

theorem none_any (p : Ptr) (w : World) (b : Bool) (hb : eqP p noP = b) :
    Calls Tryz.prog 44 #[p.val] w fun e w' => e = .returned (.bool b) ∧ Below w.heap.size w w' := by
  have HB := Lib.hid hb
  clear hb
  simp only [Ptr.val, Ptr.cells]
  go_enter Tryz.func44, Tryz.ntmps44
  go_wp2_with (with_reducible refine wpList_eql rfl rfl p noP rfl rfl b HB.out ?_)
  go_ret
  exact ⟨rfl, boxed _ _⟩

/-- Is a block born ahead of another one? -/
def lessP (p r : Ptr) : Bool := if p.bi = r.bi then (if p.ag = r.ag then decide (p.aa < r.aa) else decide (p.ag < r.ag)) else decide (p.bi < r.bi)
end Go.Proofs.YtiffkbmcikiioaaGreat

/- ptr.stands, apart, Right: what they answer. -/
namespace Go.Proofs.YtiffkbmcikiioaaGreat
set_option maxRecDepth 100000
open Go.RowKit M

theorem stands_any (l : List (Int × Int)) (s : Int) (v : Value) (w : World) (h : Meas w v l s) (k t z : Int) (hk : I64 k) (ht : I64 t) (hz : I64 z) (b : Bool) (hb : mayL l s k t z = b) :
    Calls Tryz.prog 61 #[v, .agg #[.int .i64 k, .int .i64 t], .int .i64 z] w fun e w' => e = .returned (.bool b) ∧ Below w.heap.size w w' := by
  obtain ⟨a, n, c, rfl, hg⟩ := id h
  have K := Lib.hid (HeldP.start k t h)
  have HB := Lib.hid hb
  clear h hg hb
  go_enter Tryz.func61, Tryz.ntmps61
  go_wp2_with fail
  refine (of_any l s _ _ K.out.h.m k t z hk ht hz).mono ?_
  rintro e w1 ⟨v', er, rfl, hO, b1⟩
  have K1 := Lib.hid (K.out.next b1)
  clear b1 K
  rcases hO with ⟨hm, rfl, rfl⟩ | ⟨k', t', z', hk', ht', hz', hB, rfl, hown⟩
  · have HM := Lib.hid hm
    clear hm
    go_wp2
    go_ret
    exact ⟨by rw [← HB.out, HM.out]; rfl, K1.out.h.below⟩
  · have HM := Lib.hid (mayL_iff.2 ⟨k', t', z', hk', ht', hz', hB⟩)
    clear hk' ht' hz' hB hown
    go_wp2
    go_ret
    exact ⟨by rw [← HB.out, HM.out]; rfl, K1.out.h.below⟩

/-- A group's cells: what a block takes of it. -/
def tk (l : List (Int × Int)) (k z : Int) : Int := takesG (l.getD k.toNat (0, 0)) z
/-- Do two stretches share no sector? -/
def apartL (l : List (Int × Int)) (ag aa bg ba z : Int) : Bool := decide (¬ ag = bg ∨ aa + tk l ag z ≤ ba ∨ ba + tk l ag z ≤ aa)
theorem takes_le {k : Int × Int} {z : Int} (z4 : z ≤ 4) : takesG k z ≤ 6 := by
  unfold takesG; split <;> (try split) <;> (try split) <;> (try split) <;> (try split) <;> omega
theorem takes_ge {k : Int × Int} {z : Int} (z1 : 1 ≤ z) : 1 ≤ takesG k z := by
  unfold takesG; split <;> (try split) <;> (try split) <;> (try split) <;> (try split) <;> omega
theorem gives_le {l : List (Int × Int)} {s : Int} {k : Nat} (h : RightM l s) (hk : k < l.length) : gives l[k] s ≤ 32768 := by
  have h1 := h.s1
  have h2 := h.s0
  have h3 := okG_wide (h.all k hk)
  unfold gives
  split
  · generalize l[k].2 = u at h3
    have : (s - 16) * u ≤ 4080 * 8 := Int.mul_le_mul (by omega) (by omega) (by omega) (by omega)
    omega
  · omega
theorem mayL_facts {l : List (Int × Int)} {s k t z : Int} (h : mayL l s k t z = true) : RightM l s ∧ (∃ k' : Nat, k = k' ∧ k' < l.length) ∧ 1 ≤ z ∧ z ≤ 4 ∧ 0 ≤ t ∧ t ≤ 32768 ∧ 1 ≤ tk l k z ∧ tk l k z ≤ 6 := by
  obtain ⟨k', t', z', rfl, rfl, rfl, hB⟩ := mayL_iff.1 h
  have h1 := hB.z1
  have h4 := hB.z4
  have hf := hB.fit
  have hg := gives_le hB.right hB.hk
  have hk := hB.hk
  have ht : 1 ≤ takesG l[k'] (z' : Int) := takes_ge (by omega)
  refine ⟨hB.right, ⟨k', rfl, hB.hk⟩, by omega, by omega, by omega, by omega, takes_ge (by omega), takes_le (by omega)⟩

theorem at_new (U : World) (m : Nat) (hm : U.heap.size = m) (x y : Value) (ty : TypeId) : (U.alloc (.cells #[x, y] ty)).cell? ⟨m, 0, none⟩ = some x ∧ (U.alloc (.cells #[x, y] ty)).cell? ⟨m, 1, none⟩ = some y := by
  subst hm; simp
theorem apart_any (l : List (Int × Int)) (s : Int) (v : Value) (w : World) (h : Meas w v l s) (ag aa bg ba z : Int) (hA : mayL l s ag aa z = true) (hB : mayL l s bg ba z = true) (b : Bool) (hb : apartL l ag aa bg ba z = b) :
    Calls Tryz.prog 62 #[v, .agg #[.int .i64 ag, .int .i64 aa], .agg #[.int .i64 bg, .int .i64 ba], .int .i64 z] w fun e w' => e = .returned (.bool b) ∧ Below w.heap.size w w' := by
  obtain ⟨hr, ⟨k', rfl, hk'⟩, z1, z4, a0, a1, t0, t1⟩ := mayL_facts hA
  obtain ⟨_, _, _, _, b0, b1, _, _⟩ := mayL_facts hB
  obtain ⟨a, n, c, rfl, hg⟩ := id h
  have K := Lib.hid ((HeldP.start (k' : Int) aa h).next (boxed _ (.cells #[.int .i64 bg, .int .i64 ba] 26)))
  have HB := Lib.hid hb
  have HX := Lib.hid (rfl : tk l (k' : Int) z = tk l (k' : Int) z)
  have hx : takesG l[k'] z = tk l (k' : Int) z := by rw [tk, Int.toNat_natCast, getD_at hk']
  have HT := Lib.hid hx
  clear h hg hb hA hB hx
  unfold apartL at HB
  generalize tk l (k' : Int) z = x at HB t0 t1 HT
  go_enter Tryz.func62, Tryz.ntmps62
  go_wp2_with fail
  refine (takes_some l s _ _ K.out.h.m hr k' hk' z z1 z4 x HT.out).mono ?_
  rintro e w1 ⟨rfl, b1'⟩
  have hbw := Lib.hid (next K.out.h.below b1')
  have K1 := K.out.next b1'
  have c0 := K1.p0
  have c1 := K1.p1
  have d0 : w1.cell? ⟨w.heap.size + 2, 0, none⟩ = some (.int .i64 bg) := by rw [b1'.cell (p := ⟨w.heap.size + 2, 0, none⟩) (by simp)]; exact (at_new _ _ (by simp) _ _ _).1
  have d1 : w1.cell? ⟨w.heap.size + 2, 1, none⟩ = some (.int .i64 ba) := by rw [b1'.cell (p := ⟨w.heap.size + 2, 1, none⟩) (by simp)]; exact (at_new _ _ (by simp) _ _ _).2
  clear K1 b1' K
  by_cases h1 : (k' : Int) = bg
  · by_cases h2 : aa + x ≤ ba
    · go_wp2
      go_ret
      exact ⟨by rw [← HB.out]; simp [h1, h2], hbw.out⟩
    · by_cases h3 : ba + x ≤ aa
      · go_wp2
        go_ret
        exact ⟨by rw [← HB.out]; simp [h1]; omega, hbw.out⟩
      · go_wp2
        go_ret
        exact ⟨by rw [← HB.out]; simp [h1], hbw.out⟩
  · go_wp2
    go_ret
    exact ⟨by rw [← HB.out]; simp [h1], hbw.out⟩
end Go.Proofs.YtiffkbmcikiioaaGreat

/- ptr.Right: what it answers. -/
namespace Go.Proofs.YtiffkbmcikiioaaGreat
set_option maxRecDepth 100000
open Go.RowKit M

/-- A measure and a pointer in boxes, in a world that grew from w0. -/
structure GP (w0 w : World) (b p : Nat) (a : Option Addr) (n c : Nat) (s : Int) (l : List (Int × Int)) (x : Ptr) : Prop where
  h : Held w0 w b a n c s l
  x : Box w p x
theorem GP.next {w0 w w' : World} {b p : Nat} {a : Option Addr} {n c : Nat} {s : Int} {l : List (Int × Int)} {x : Ptr} (h : GP w0 w b p a n c s l x) (k : Below w.heap.size w w') : GP w0 w' b p a n c s l x := ⟨h.h.next k, h.x.next k⟩
theorem GP.start {w : World} {a : Option Addr} {n c : Nat} {s : Int} {l : List (Int × Int)} (x : Ptr) (h : Meas w (.agg #[.slice a n c, .int .i64 s]) l s) :
    GP w ((w.alloc (.cells #[.slice a n c, .int .i64 s] 24)).alloc (.cells x.cells 31)) w.heap.size (w.heap.size + 1) a n c s l x :=
  ⟨(Held.start h).next (boxed _ _), by have := Box.new (w.alloc (.cells #[.slice a n c, .int .i64 s] 24)) x; rwa [World.size_alloc] at this⟩

/-- Is a pointer right? -/
abbrev rangeP (x : Ptr) : Prop := 0 ≤ x.lv ∧ x.lv ≤ 3 ∧ 1 ≤ x.bi ∧ x.bi ≤ 4294967295
def rightP (l : List (Int × Int)) (s : Int) (x : Ptr) : Bool :=
  decide (rangeP x) && mayL l s x.ag x.aa x.sz && (if x.two then mayL l s x.bg x.ba x.sz && apartL l x.ag x.aa x.bg x.ba x.sz else decide (x.bg = 0 ∧ x.ba = 0))

set_option maxHeartbeats 1000000 in
theorem right9_any (l : List (Int × Int)) (s : Int) (v : Value) (w : World) (h : Meas w v l s) (x : Ptr) (hx : x.Ok) (b : Bool) (hb : rightP l s x = b) :
    Calls Tryz.prog 30 #[v, x.val] w fun e w' => e = .returned (.bool b) ∧ Below w.heap.size w w' := by
  obtain ⟨a, n, c, rfl, hg⟩ := id h
  have K := Lib.hid (GP.start x h)
  have HB := Lib.hid hb
  clear h hg hb
  unfold Ptr.cells at K
  simp only [Ptr.val, Ptr.cells]
  obtain ⟨⟨ag0, ag1⟩, ⟨aa0, aa1⟩, ⟨bg0, bg1⟩, ⟨ba0, ba1⟩, ⟨sz0, sz1⟩, ⟨lv0, lv1⟩, ⟨bi0, bi1⟩, hq⟩ := hx
  by_cases hr : 0 ≤ x.lv ∧ x.lv ≤ 3 ∧ 1 ≤ x.bi ∧ x.bi ≤ 4294967295
  · obtain ⟨r0, r1, r2, r3⟩ := id hr
    have HR := Lib.hid (show decide (rangeP x) = true from decide_eq_true hr)
    clear hr
    go_enter Tryz.func30, Tryz.ntmps30
    cases hA : mayL l s x.ag x.aa x.sz with
    | false =>
      have HA := Lib.hid hA
      clear hA
      go_wp2_with fail
      refine (stands_any l s _ _ K.out.h.m x.ag x.aa x.sz ⟨ag0, ag1⟩ ⟨aa0, aa1⟩ ⟨sz0, sz1⟩ false HA.out).mono ?_
      rintro e w1 ⟨rfl, b1⟩
      have K1 := Lib.hid (K.out.next b1)
      clear b1 K
      go_wp2
      go_ret
      exact ⟨by rw [← HB.out, rightP, HA.out, Bool.and_false, Bool.false_and]; rfl, K1.out.h.below⟩
    | true =>
      have HA := Lib.hid hA
      clear hA
      go_wp2_with fail
      refine (stands_any l s _ _ K.out.h.m x.ag x.aa x.sz ⟨ag0, ag1⟩ ⟨aa0, aa1⟩ ⟨sz0, sz1⟩ true HA.out).mono ?_
      rintro e w1 ⟨rfl, b1⟩
      have K1 := Lib.hid (K.out.next b1)
      clear b1 K
      obtain ⟨⟨g0, g1, _, _, _⟩, ⟨c0, c1, c2, c3, c4, c5, c6, c7, c8, c9, c10, c11, hlt⟩⟩ := id K1.out
      by_cases ht : x.two = true
      · rw [ht] at c4
        cases hB : mayL l s x.bg x.ba x.sz with
        | false =>
          have HBB := Lib.hid hB
          clear hB
          have HT := Lib.hid ht
          clear ht
          go_wp2_with fail
          refine (stands_any l s _ _ K1.out.h.m x.bg x.ba x.sz ⟨bg0, bg1⟩ ⟨ba0, ba1⟩ ⟨sz0, sz1⟩ false HBB.out).mono ?_
          rintro e w2 ⟨rfl, b2⟩
          have K2 := Lib.hid (K1.out.next b2)
          clear b2 K1 g0 g1 c0 c1 c2 c3 c4 c5 c6 c7 c8 c9 c10 c11 hlt
          go_wp2
          go_ret
          exact ⟨by rw [← HB.out, rightP, HT.out, HBB.out, if_pos rfl, Bool.false_and, Bool.and_false]; rfl, K2.out.h.below⟩
        | true =>
          have HBB := Lib.hid hB
          clear hB
          have HT := Lib.hid ht
          clear ht
          go_wp2_with fail
          refine (stands_any l s _ _ K1.out.h.m x.bg x.ba x.sz ⟨bg0, bg1⟩ ⟨ba0, ba1⟩ ⟨sz0, sz1⟩ true HBB.out).mono ?_
          rintro e w2 ⟨rfl, b2⟩
          have K2 := Lib.hid (K1.out.next b2)
          clear b2 K1 g0 g1 c0 c1 c2 c3 c4 c5 c6 c7 c8 c9 c10 c11 hlt
          obtain ⟨⟨g0, g1, _, _, _⟩, ⟨c0, c1, c2, c3, c4, c5, c6, c7, c8, c9, c10, c11, hlt⟩⟩ := id K2.out
          have HAP := Lib.hid (apart_any l s _ _ K2.out.h.m x.ag x.aa x.bg x.ba x.sz HA.out HBB.out _ rfl)
          have HE : Hid (apartL l x.ag x.aa x.bg x.ba x.sz = b) := Lib.hid (by rw [← HB.out, rightP, HR.out, HA.out, HT.out, HBB.out, if_pos rfl, Bool.true_and, Bool.true_and, Bool.true_and])
          rw [HE.out] at HAP
          go_wp2_with fail
          refine HAP.out.mono ?_
          rintro e w3 ⟨rfl, b3⟩
          have K3 := Lib.hid (K2.out.next b3)
          clear b3 K2 g0 g1 c0 c1 c2 c3 c4 c5 c6 c7 c8 c9 c10 c11 hlt HAP
          go_wp2
          go_ret
          exact ⟨rfl, K3.out.h.below⟩
      · have ht' : x.two = false := by simpa using ht
        have HT := Lib.hid ht'
        rw [ht'] at c4
        clear ht ht'
        by_cases e1 : x.bg = 0
        · by_cases e2 : x.ba = 0
          · go_wp2
            go_ret
            exact ⟨by rw [← HB.out, rightP, HR.out, HA.out, HT.out]; simp [e1, e2], K1.out.h.below⟩
          · go_wp2
            go_ret
            exact ⟨by rw [← HB.out, rightP, HR.out, HA.out, HT.out]; simp [e2], K1.out.h.below⟩
        · go_wp2
          go_ret
          exact ⟨by rw [← HB.out, rightP, HR.out, HA.out, HT.out]; simp [e1], K1.out.h.below⟩
  · have HR := Lib.hid (show decide (rangeP x) = false from decide_eq_false hr)
    have hf : b = false := by rw [← HB.out, rightP, HR.out]; rfl
    subst hf
    go_enter Tryz.func30, Tryz.ntmps30
    go_wp2
    all_goals (go_ret; exact ⟨rfl, K.out.h.below⟩)
end Go.Proofs.YtiffkbmcikiioaaGreat

/- ptr.Places: what it answers. -/
namespace Go.Proofs.YtiffkbmcikiioaaGreat
set_option maxRecDepth 100000
open Go.RowKit M

/-- The places that a slice holds. -/
def PlsV (w : World) (v : Value) (x : Ptr) : Prop :=
  (x = noP ∧ v = .slice none 0 0) ∨
  (x ≠ noP ∧ x.two = true ∧ ∃ g, v = .slice (some ⟨g, 0, none⟩) 2 2 ∧ g < w.heap.size ∧ w.cell? ⟨g, 0, none⟩ = some (.int .i64 x.ag) ∧ w.cell? ⟨g, 1, none⟩ = some (.int .i64 x.aa) ∧ w.cell? ⟨g, 2, none⟩ = some (.int .i64 x.bg) ∧ w.cell? ⟨g, 3, none⟩ = some (.int .i64 x.ba)) ∨
  (x ≠ noP ∧ x.two = false ∧ ∃ g, v = .slice (some ⟨g, 0, none⟩) 1 1 ∧ g < w.heap.size ∧ w.cell? ⟨g, 0, none⟩ = some (.int .i64 x.ag) ∧ w.cell? ⟨g, 1, none⟩ = some (.int .i64 x.aa))

theorem places_any (x : Ptr) (w : World) :
    Calls Tryz.prog 19 #[x.val] w fun e w' => ∃ v, e = .returned v ∧ PlsV w' v x ∧ Below w.heap.size w w' := by
  have K := Lib.hid (Box.new w x)
  unfold Ptr.cells at K
  obtain ⟨b, hb⟩ : ∃ b, eqP x noP = b := ⟨_, rfl⟩
  have HN := Lib.hid (none_any x · b hb)
  have HB := Lib.hid hb
  clear hb
  simp only [Ptr.val, Ptr.cells] at HN ⊢
  go_enter Tryz.func19, Tryz.ntmps19
  cases b with
  | true =>
    have e := eqP_iff.1 HB.out
    have HE := Lib.hid e
    clear e
    go_wp2_with fail
    refine (HN.out _).mono ?_
    rintro e w1 ⟨rfl, b1⟩
    have HW := Lib.hid (next (boxed w _) b1)
    clear b1 K HN
    go_wp2
    go_ret
    exact ⟨_, rfl, .inl ⟨HE.out, rfl⟩, HW.out⟩
  | false =>
    have HE := Lib.hid (eqP_not.1 HB.out)
    go_wp2_with fail
    refine (HN.out _).mono ?_
    rintro e w1 ⟨rfl, b1⟩
    have HW := Lib.hid (next (boxed w _) b1)
    obtain ⟨c0, c1, c2, c3, c4, c5, c6, c7, c8, c9, c10, c11, hlt⟩ := K.out.next b1
    clear b1 K HN
    by_cases ht : x.two = true
    · rw [ht] at c4
      have HT := Lib.hid ht
      clear ht
      go_wp2
      go_ret
      exact ⟨_, rfl, .inr (.inl ⟨HE.out, HT.out, _, rfl, by simp, by simp, by simp, by simp, by simp⟩), next HW.out (boxed _ _)⟩
    · have ht' : x.two = false := by simpa using ht
      have HT := Lib.hid ht'
      rw [ht'] at c4
      clear ht ht'
      go_wp2
      go_ret
      exact ⟨_, rfl, .inr (.inr ⟨HE.out, HT.out, _, rfl, by simp, by simp, by simp⟩), next HW.out (boxed _ _)⟩
end Go.Proofs.YtiffkbmcikiioaaGreat
