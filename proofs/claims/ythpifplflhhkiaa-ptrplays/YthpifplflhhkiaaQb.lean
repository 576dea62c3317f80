/-
  ptr.None, Less: what they answer; two pointers compared.
-/
import Derived.Test.YthpifplflhhkiaaQa
namespace Go.Proofs.Ythpifplflhhkiaa
set_option maxRecDepth 100000
open Go.RowKit M

theorem eq4_nat (a b c d a' b' c' d' : Nat) : eq4 (a : Int) b c d a' b' c' d' = decide (a = a' ∧ b = b' ∧ c = c' ∧ d = d') := by
  by_cases h : a = a' ∧ b = b' ∧ c = c' ∧ d = d'
  · rw [decide_eq_true h]; obtain ⟨rfl, rfl, rfl, rfl⟩ := h; exact eq4_true rfl rfl rfl rfl
  · rw [decide_eq_false h]; exact eq4_false (by omega)
theorem ptr_equal (p r : Ptr) (w : World) : (Op.equalIn 10000 28 (.agg p.cells) (.agg r.cells)).run Try.prog w = .ok (eqP p r) w := by
  have hS : Try.prog.underlying 28 = some (.struct (Try.prog.fieldsOf 28)) := by kernel_rfl
  have hp : Try.prog.stoodInHeld 28 = false := by kernel_rfl
  have hS2 : Try.prog.underlying 23 = some (.struct (Try.prog.fieldsOf 23)) := by kernel_rfl
  have hp2 : Try.prog.stoodInHeld 23 = false := by kernel_rfl
  obtain ⟨p0, p1, p2, p3, p4, p5, p6, p7, p8, p9, p10, p11⟩ := p
  obtain ⟨r0, r1, r2, r3, r4, r5, r6, r7, r8, r9, r10, r11⟩ := r
  have he := sum_equal9
  rw [run_equalIn_struct w 9999 28 _ _ hS hp]
  simp [Ptr.cells, go_sem, Program.fieldsOf, Try.underlying28, Op.eqFields, part, he]
  by_cases h0 : p0 = r0
  · by_cases h1 : p1 = r1
    · by_cases h2 : p2 = r2
      · by_cases h3 : p3 = r3
        · by_cases h4 : p4 = r4
          · by_cases h5 : p5 = r5
            · by_cases h6 : p6 = r6
              · by_cases h7 : p7 = r7
                · rw [eq4_nat]
                  subst h0 h1 h2 h3 h4 h5 h6 h7
                  by_cases h8 : p8 = r8 ∧ p9 = r9 ∧ p10 = r10 ∧ p11 = r11
                  · rw [decide_eq_true h8]; obtain ⟨h8, h9, h10, h11⟩ := h8; subst h8 h9 h10 h11; simp [eqP]
                  · rw [decide_eq_false h8]
                    have e : eqP ⟨p0, p1, p2, p3, p4, p5, p6, p7, ⟨p8, p9, p10, p11⟩⟩ ⟨p0, p1, p2, p3, p4, p5, p6, p7, ⟨r8, r9, r10, r11⟩⟩ = false := by
                      rw [eqP]; exact decide_eq_false (fun h => h8 h.2.2.2.2.2.2.2.2)
                    rw [e]; simp
                · simp [eqP, h7]
              · simp [eqP, h6]
            · simp [eqP, h5]
          · simp [eqP, h4]
        · simp [eqP, h3]
      · simp [eqP, h2]
    · simp [eqP, h1]
  · simp [eqP, h0]

theorem ptr_eql (p r : Ptr) (w : World) : (binOp .eql 28 (.agg p.cells) (.agg r.cells)).run Try.prog w = .ok (.bool (eqP p r)) w := by
  rw [run_eql_struct, ptr_equal]; rfl
theorem ptr_neq (p r : Ptr) (w : World) : (binOp .neq 28 (.agg p.cells) (.agg r.cells)).run Try.prog w = .ok (.bool (!eqP p r)) w := by
  rw [run_neq_struct, ptr_equal]; rfl

theorem exec_eql (ρ : Operand → Value) (o : Oper) (x y : Operand) (z : TypeId) (p r : Ptr) (w : World) (ho : o.op = .binOp .eql 28 x y z) (hx : ρ x = .agg p.cells) (hy : ρ y = .agg r.cells) :
    (execOp ρ o).run Try.prog w = .ok (.value (.bool (eqP p r))) w := by
  have hg := ptr_guard
  simp only [execOp, ho, hx, hy, Sem.run_bind, run_eqGuard_agg w .eql _ x y _ _ hg, Result.andThen_ok, ptr_eql, Sem.run_pure]
theorem exec_neq (ρ : Operand → Value) (o : Oper) (x y : Operand) (z : TypeId) (p r : Ptr) (w : World) (ho : o.op = .binOp .neq 28 x y z) (hx : ρ x = .agg p.cells) (hy : ρ y = .agg r.cells) :
    (execOp ρ o).run Try.prog w = .ok (.value (.bool (!eqP p r))) w := by
  have hg := ptr_guard
  simp only [execOp, ho, hx, hy, Sem.run_bind, run_eqGuard_agg w .neq _ x y _ _ hg, Result.andThen_ok, ptr_neq, Sem.run_pure]
section
variable {ops : Array Oper} {rest : List Oper} {o : Oper} {a : Act} {Q : Exit → Act → World → Prop} {w : World} {d : Nat} {x y : Operand} {z : TypeId}
/-- Two pointers compared, in a walk: the slots' values are named. -/
theorem wpList_eql (hgd : o.guard = none) (ho : o.op = .binOp .eql 28 x y z) (p r : Ptr) (hx : a.eval x = .agg p.cells) (hy : a.eval y = .agg r.cells) (b : Bool) (hb : eqP p r = b)
    (h : wpList Try.prog ops Q rest (a.put o.dst (.bool b)) w) : wpList Try.prog ops Q (o :: rest) a w :=
  wpList_plain hgd fun _ hK => by
    show o.upon _ _ _ _ _
    rw [exec_eql _ o x y z p r w ho hx hy, hb]
    exact hK _ _ h
theorem wpList_neq_on (hgd : Region.wanted o (yielded ops a.tmps) = true) (ho : o.op = .binOp .neq 28 x y z) (p r : Ptr) (hx : a.eval x = .agg p.cells) (hy : a.eval y = .agg r.cells) (b : Bool) (hb : eqP p r = b)
    (h : wpList Try.prog ops Q rest (a.put o.dst (.bool (!b))) w) : wpList Try.prog ops Q (o :: rest) a w :=
  wpList_step fun _ hK => by
    rw [if_pos hgd]
    show o.upon _ _ _ _ _
    rw [exec_neq _ o x y z p r w ho hx hy, hb]
    exact hK _ _ h
theorem wpList_eql_on (hgd : Region.wanted o (yielded ops a.tmps) = true) (ho : o.op = .binOp .eql 28 x y z) (p r : Ptr) (hx : a.eval x = .agg p.cells) (hy : a.eval y = .agg r.cells) (b : Bool) (hb : eqP p r = b)
    (h : wpList Try.prog ops Q rest (a.put o.dst (.bool b)) w) : wpList Try.prog ops Q (o :: rest) a w :=
  wpList_step fun _ hK => by
    rw [if_pos hgd]
    show o.upon _ _ _ _ _
    rw [exec_eql _ o x y z p r w ho hx hy, hb]
    exact hK _ _ h
/-- .. in a region that draws its order. -/
theorem wpQuiet_eql {C : World → Prop} {Q : Act → Prop} (hgd : Region.wanted o (yielded ops a.tmps) = true) (ho : o.op = .binOp .eql 28 x y z) (p r : Ptr) (hx : a.eval x = .agg p.cells) (hy : a.eval y = .agg r.cells) (b : Bool) (hb : eqP p r = b)
    (h : wpQuiet Try.prog ops C Q rest (a.put o.dst (.bool b))) : wpQuiet Try.prog ops C Q (o :: rest) a :=
  wpQuiet_step fun _ hK => by
    rw [if_pos hgd]
    refine ⟨.bool b, fun w _ => ?_, hK _ h⟩
    show Oper.quietUpon _ _ _ _ _
    rw [exec_eql _ o x y z p r w ho hx hy, hb]
    exact ⟨rfl, rfl⟩
theorem wpQuiet_neq {C : World → Prop} {Q : Act → Prop} (hgd : Region.wanted o (yielded ops a.tmps) = true) (ho : o.op = .binOp .neq 28 x y z) (p r : Ptr) (hx : a.eval x = .agg p.cells) (hy : a.eval y = .agg r.cells) (b : Bool) (hb : eqP p r = b)
    (h : wpQuiet Try.prog ops C Q rest (a.put o.dst (.bool (!b)))) : wpQuiet Try.prog ops C Q (o :: rest) a :=
  wpQuiet_step fun _ hK => by
    rw [if_pos hgd]
    refine ⟨.bool (!b), fun w _ => ?_, hK _ h⟩
    show Oper.quietUpon _ _ _ _ _
    rw [exec_neq _ o x y z p r w ho hx hy, hb]
    exact ⟨rfl, rfl⟩
end

theorem none_any (p : Ptr) (w : World) (b : Bool) (hb : eqP p noP = b) :
    Calls Try.prog 10 #[p.val] w fun e w' => e = .returned (.bool b) ∧ Below w.heap.size w w' := by
  have HB := Lib.hid hb
  clear hb
  simp only [Ptr.val, Ptr.cells]
  go_enter Try.func10, Try.ntmps10
  go_wp2_with (with_reducible refine wpList_eql rfl rfl p noP rfl rfl b HB.out ?_)
  go_ret
  exact ⟨rfl, boxed _ _⟩

/-- Is a block born ahead of another one? -/
def lessP (p r : Ptr) : Bool := if p.bi = r.bi then (if p.ag = r.ag then decide (p.aa < r.aa) else decide (p.ag < r.ag)) else decide (p.bi < r.bi)
theorem less_any (p r : Ptr) (w : World) :
    Calls Try.prog 11 #[p.val, r.val] w fun e w' => e = .returned (.bool (lessP p r)) ∧ Below w.heap.size w w' := by
  simp only [Ptr.val, Ptr.cells]
  go_enter Try.func11, Try.ntmps11
  by_cases h1 : p.bi = r.bi
  · by_cases h2 : p.ag = r.ag
    · go_wp2
      go_ret
      exact ⟨by simp [lessP, h1, h2], (boxed _ _).trans ((boxed _ _).mono (by simp))⟩
    · go_wp2
      go_ret
      exact ⟨by simp [lessP, h1, h2], (boxed _ _).trans ((boxed _ _).mono (by simp))⟩
  · go_wp2
    go_ret
    exact ⟨by simp [lessP, h1], (boxed _ _).trans ((boxed _ _).mono (by simp))⟩
end Go.Proofs.Ythpifplflhhkiaa
