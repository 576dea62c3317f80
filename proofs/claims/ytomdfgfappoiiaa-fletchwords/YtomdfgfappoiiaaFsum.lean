/-
  fletch.Sum, More: what they answer; the document's examples.
-/
import Derived.Test.YtomdfgfappoiiaaFgr
import Derived.Test.YtomdfgfappoiiaaFq
namespace Go.Proofs.Ytomdfgfappoiiaa
open Go.RowKit Go.Shelf M

theorem sum_any (s : ByteArray) (w : World) (hs : s.size ≤ 1099511627776) :
    Calls Try.prog 10 #[.string s] w fun e w' =>
      e = .returned (.agg #[.int .u64 (sumQ zeroQ (wordsB s)).a, .int .u64 (sumQ zeroQ (wordsB s)).b, .int .u64 (sumQ zeroQ (wordsB s)).c, .int .u64 (sumQ zeroQ (wordsB s)).d]) ∧ Below w.heap.size w w' := by
  go_enter Try.func10, Try.ntmps10
  go_wp2_with fail
  refine (grow_any zeroQ s _ zeroQ_ok hs).mono ?_
  rintro e w1 ⟨rfl, b1⟩
  generalize hr : sumQ zeroQ (wordsB s) = r
  have HX := Lib.hid hr
  clear hr
  have hR := (HoldsQ.new w zeroQ 29).below b1 (by simp)
  have hB : Below w.heap.size w w1 := ((Below.refl _ w).alloc (Nat.le_refl _) _).trans (b1.mono (by simp))
  have HR := Lib.hid hR
  obtain ⟨k0, k1, k2, k3, f0, f1, f2, f3⟩ := hR
  clear b1
  go_wp2
  have hp := HR.out.put r
  refine bodyPost_ret (v := .agg #[.int .u64 r.a, .int .u64 r.b, .int .u64 r.c, .int .u64 r.d]) ?_ rfl ⟨by rw [HX.out], hB.trans (putQ_below (Nat.le_refl _) r)⟩
  have c0 := hp.c0
  have c1 := hp.c1
  have c2 := hp.c2
  have c3 := hp.c3
  unfold putQ at c0 c1 c2 c3
  simp [results, Try.results10, go_sem, c0, c1, c2, c3]

theorem more_bad (q : Q) (s : ByteArray) (w : World) (hs : s.size ≤ 1099511627776) (h4 : 1 ≤ s.size % 4) :
    Calls Try.prog 11 #[.agg #[.int .u64 q.a, .int .u64 q.b, .int .u64 q.c, .int .u64 q.d], .string s] w fun e w' =>
      e = .returned (.tuple #[.agg #[.int .u64 0, .int .u64 0, .int .u64 0, .int .u64 0], .int .i64 1]) ∧ Below w.heap.size w w' := by
  have hne : ((s.size : Int) % 4 != 0) = true := by rw [bne_iff_ne]; omega
  go_enter Try.func11, Try.ntmps11
  go_wp2
  refine bodyPost_ret (v := .tuple #[.agg #[.int .u64 0, .int .u64 0, .int .u64 0, .int .u64 0], .int .i64 1]) (by simp [results, Try.results11, go_sem]) rfl ⟨rfl, ?_⟩
  exact ((Below.refl _ _).alloc (Nat.le_refl _) _).alloc (by simp) _
theorem more_any (q : Q) (s : ByteArray) (w : World) (hq : q.Ok) (hs : s.size ≤ 1099511627776) (h4 : s.size % 4 = 0) :
    Calls Try.prog 11 #[.agg #[.int .u64 q.a, .int .u64 q.b, .int .u64 q.c, .int .u64 q.d], .string s] w fun e w' =>
      e = .returned (.tuple #[.agg #[.int .u64 (sumQ q (wordsB s)).a, .int .u64 (sumQ q (wordsB s)).b, .int .u64 (sumQ q (wordsB s)).c, .int .u64 (sumQ q (wordsB s)).d], .int .i64 0]) ∧ Below w.heap.size w w' := by
  have hne : ((s.size : Int) % 4 != 0) = false := by rw [bne_eq_false_iff_eq]; omega
  have H4 := Lib.hid h4
  clear h4
  go_enter Try.func11, Try.ntmps11
  go_wp2_with fail
  refine (grow_any q s _ hq hs).mono ?_
  rintro e w1 ⟨rfl, b1⟩
  generalize hr : sumQ q (wordsB s) = r
  have HX := Lib.hid hr
  clear hr
  have hR := HoldsQ.new (w.alloc (.cells #[.int .u64 q.a, .int .u64 q.b, .int .u64 q.c, .int .u64 q.d] 29)) zeroQ 29
  rw [World.size_alloc] at hR
  replace hR := hR.below b1 (by simp)
  have hB : Below w.heap.size w w1 := (((Below.refl _ w).alloc (Nat.le_refl _) _).alloc (by simp) _).trans (b1.mono (by simp; omega))
  have HR := Lib.hid hR
  obtain ⟨k0, k1, k2, k3, f0, f1, f2, f3⟩ := hR
  clear b1
  go_wp2
  have hp := HR.out.put r
  refine bodyPost_ret (v := .tuple #[.agg #[.int .u64 r.a, .int .u64 r.b, .int .u64 r.c, .int .u64 r.d], .int .i64 0]) ?_ rfl ⟨by rw [HX.out], hB.trans (putQ_below (by omega) r)⟩
  have c0 := hp.c0
  have c1 := hp.c1
  have c2 := hp.c2
  have c3 := hp.c3
  unfold putQ at c0 c1 c2 c3
  simp [results, Try.results11, go_sem, c0, c1, c2, c3]

theorem sum_1 (w : World) : Calls Try.prog 10 #[.string ⟨#[1]⟩] w fun e w' => e = .returned (.agg #[.int .u64 1, .int .u64 1, .int .u64 1, .int .u64 1]) ∧ Below w.heap.size w w' := by
  have h : sumQ zeroQ (wordsB ⟨#[1]⟩) = ⟨1, 1, 1, 1⟩ := by kernel_rfl
  have := sum_any ⟨#[1]⟩ w (by decide)
  rw [h] at this
  exact this
theorem sum_12 (w : World) : Calls Try.prog 10 #[.string ⟨#[1, 0, 0, 0, 2, 0, 0, 0]⟩] w fun e w' => e = .returned (.agg #[.int .u64 3, .int .u64 4, .int .u64 5, .int .u64 6]) ∧ Below w.heap.size w w' := by
  have h : sumQ zeroQ (wordsB ⟨#[1, 0, 0, 0, 2, 0, 0, 0]⟩) = ⟨3, 4, 5, 6⟩ := by kernel_rfl
  have := sum_any ⟨#[1, 0, 0, 0, 2, 0, 0, 0]⟩ w (by decide)
  rw [h] at this
  exact this
theorem awake2_any (w : World) : Calls Try.prog 8 #[] w fun e w' => e = .returned (.bool true) ∧ Below w.heap.size w w' := by
  have hg := sum_guard
  have heq := sum_equal
  have e1 : eq4 1 1 1 1 1 1 1 1 = true := rfl
  have e2 : eq4 3 4 5 6 3 4 5 6 = true := rfl
  go_enter Try.func8, Try.ntmps8
  go_wp2_with fail
  refine (sum_1 _).mono ?_
  rintro e w1 ⟨rfl, b1⟩
  go_wp2_with fail
  refine (sum_12 _).mono ?_
  rintro e w2 ⟨rfl, b2⟩
  go_wp2
  go_ret
  exact ⟨rfl, b1.trans (b2.mono b1.size)⟩
end Go.Proofs.Ytomdfgfappoiiaa
