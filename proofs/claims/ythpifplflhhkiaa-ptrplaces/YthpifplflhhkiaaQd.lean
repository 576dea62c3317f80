/-
  ptr.Right: what it answers.
-/
import Derived.Test.YthpifplflhhkiaaQc
namespace Go.Proofs.Ythpifplflhhkiaa
set_option maxRecDepth 100000
open Go.RowKit M

/-- A measure and a pointer in boxes, in a world that grew from w0. -/
structure GP (w0 w : World) (b p : Nat) (a : Option Addr) (n c : Nat) (s : Int) (l : List (Int × Int)) (x : Ptr) : Prop where
  h : Held w0 w b a n c s l
  x : Box w p x
theorem GP.next {w0 w w' : World} {b p : Nat} {a : Option Addr} {n c : Nat} {s : Int} {l : List (Int × Int)} {x : Ptr} (h : GP w0 w b p a n c s l x) (k : Below w.heap.size w w') : GP w0 w' b p a n c s l x := ⟨h.h.next k, h.x.next k⟩
theorem GP.start {w : World} {a : Option Addr} {n c : Nat} {s : Int} {l : List (Int × Int)} (x : Ptr) (h : Meas w (.agg #[.slice a n c, .int .i64 s]) l s) :
    GP w ((w.alloc (.cells #[.slice a n c, .int .i64 s] 41)).alloc (.cells x.cells 28)) w.heap.size (w.heap.size + 1) a n c s l x :=
  ⟨(Held.start h).next (boxed _ _), by have := Box.new (w.alloc (.cells #[.slice a n c, .int .i64 s] 41)) x; rwa [World.size_alloc] at this⟩

/-- Is a pointer right? -/
abbrev rangeP (x : Ptr) : Prop := 0 ≤ x.lv ∧ x.lv ≤ 3 ∧ 1 ≤ x.bi ∧ x.bi ≤ 4294967295
def rightP (l : List (Int × Int)) (s : Int) (x : Ptr) : Bool :=
  decide (rangeP x) && mayL l s x.ag x.aa x.sz && (if x.two then mayL l s x.bg x.ba x.sz && apartL l x.ag x.aa x.bg x.ba x.sz else decide (x.bg = 0 ∧ x.ba = 0))

set_option maxHeartbeats 1000000 in
theorem right9_any (l : List (Int × Int)) (s : Int) (v : Value) (w : World) (h : Meas w v l s) (x : Ptr) (hx : x.Ok) (b : Bool) (hb : rightP l s x = b) :
    Calls Try.prog 15 #[v, x.val] w fun e w' => e = .returned (.bool b) ∧ Below w.heap.size w w' := by
  obtain ⟨a, n, c, rfl, hg⟩ := id h
  have K := Lib.hid (GP.start x h)
  have HB := Lib.hid hb
  clear h hg hb
  unfold Ptr.cells at K
  simp only [Ptr.val, Ptr.cells]
  obtain ⟨⟨ag0, ag1⟩, ⟨aa0, aa1⟩, ⟨bg0, bg1⟩, ⟨ba0, ba1⟩, ⟨sz0, sz1⟩, ⟨lv0, lv1⟩, ⟨bi0, bi1⟩, hq⟩ := hx
  by_cases hr : 0 ≤ x.lv ∧ x.lv ≤ 3 ∧ 1 ≤ x.bi ∧ x.bi ≤ 4294967295
  · obtain ⟨r0, r1, r2, r3⟩ := id hr
    have HR := Lib.hid (show decide (rangeP x) = true from decide_eq_true hr)
    clear hr
    go_enter Try.func15, Try.ntmps15
    cases hA : mayL l s x.ag x.aa x.sz with
    | false =>
      have HA := Lib.hid hA
      clear hA
      go_wp2_with fail
      refine (stands_any l s _ _ K.out.h.m x.ag x.aa x.sz ⟨ag0, ag1⟩ ⟨aa0, aa1⟩ ⟨sz0, sz1⟩ false HA.out).mono ?_
      rintro e w1 ⟨rfl, b1⟩
      have K1 := Lib.hid (K.out.next b1)
      clear b1 K
      go_wp2
      go_ret
      exact ⟨by rw [← HB.out, rightP, HA.out, Bool.and_false, Bool.false_and]; rfl, K1.out.h.below⟩
    | true =>
      have HA := Lib.hid hA
      clear hA
      go_wp2_with fail
      refine (stands_any l s _ _ K.out.h.m x.ag x.aa x.sz ⟨ag0, ag1⟩ ⟨aa0, aa1⟩ ⟨sz0, sz1⟩ true HA.out).mono ?_
      rintro e w1 ⟨rfl, b1⟩
      have K1 := Lib.hid (K.out.next b1)
      clear b1 K
      obtain ⟨⟨g0, g1, _, _, _⟩, ⟨c0, c1, c2, c3, c4, c5, c6, c7, c8, c9, c10, c11, hlt⟩⟩ := id K1.out
      by_cases ht : x.two = true
      · rw [ht] at c4
        cases hB : mayL l s x.bg x.ba x.sz with
        | false =>
          have HBB := Lib.hid hB
          clear hB
          have HT := Lib.hid ht
          clear ht
          go_wp2_with fail
          refine (stands_any l s _ _ K1.out.h.m x.bg x.ba x.sz ⟨bg0, bg1⟩ ⟨ba0, ba1⟩ ⟨sz0, sz1⟩ false HBB.out).mono ?_
          rintro e w2 ⟨rfl, b2⟩
          have K2 := Lib.hid (K1.out.next b2)
          clear b2 K1 g0 g1 c0 c1 c2 c3 c4 c5 c6 c7 c8 c9 c10 c11 hlt
          go_wp2
          go_ret
          exact ⟨by rw [← HB.out, rightP, HT.out, HBB.out, if_pos rfl, Bool.false_and, Bool.and_false]; rfl, K2.out.h.below⟩
        | true =>
          have HBB := Lib.hid hB
          clear hB
          have HT := Lib.hid ht
          clear ht
          go_wp2_with fail
          refine (stands_any l s _ _ K1.out.h.m x.bg x.ba x.sz ⟨bg0, bg1⟩ ⟨ba0, ba1⟩ ⟨sz0, sz1⟩ true HBB.out).mono ?_
          rintro e w2 ⟨rfl, b2⟩
          have K2 := Lib.hid (K1.out.next b2)
          clear b2 K1 g0 g1 c0 c1 c2 c3 c4 c5 c6 c7 c8 c9 c10 c11 hlt
          obtain ⟨⟨g0, g1, _, _, _⟩, ⟨c0, c1, c2, c3, c4, c5, c6, c7, c8, c9, c10, c11, hlt⟩⟩ := id K2.out
          have HAP := Lib.hid (apart_any l s _ _ K2.out.h.m x.ag x.aa x.bg x.ba x.sz HA.out HBB.out _ rfl)
          have HE : Hid (apartL l x.ag x.aa x.bg x.ba x.sz = b) := Lib.hid (by rw [← HB.out, rightP, HR.out, HA.out, HT.out, HBB.out, if_pos rfl, Bool.true_and, Bool.true_and, Bool.true_and])
          rw [HE.out] at HAP
          go_wp2_with fail
          refine HAP.out.mono ?_
          rintro e w3 ⟨rfl, b3⟩
          have K3 := Lib.hid (K2.out.next b3)
          clear b3 K2 g0 g1 c0 c1 c2 c3 c4 c5 c6 c7 c8 c9 c10 c11 hlt HAP
          go_wp2
          go_ret
          exact ⟨rfl, K3.out.h.below⟩
      · have ht' : x.two = false := by simpa using ht
        have HT := Lib.hid ht'
        rw [ht'] at c4
        clear ht ht'
        by_cases e1 : x.bg = 0
        · by_cases e2 : x.ba = 0
          · go_wp2
            go_ret
            exact ⟨by rw [← HB.out, rightP, HR.out, HA.out, HT.out]; simp [e1, e2], K1.out.h.below⟩
          · go_wp2
            go_ret
            exact ⟨by rw [← HB.out, rightP, HR.out, HA.out, HT.out]; simp [e2], K1.out.h.below⟩
        · go_wp2
          go_ret
          exact ⟨by rw [← HB.out, rightP, HR.out, HA.out, HT.out]; simp [e1], K1.out.h.below⟩
  · have HR := Lib.hid (show decide (rangeP x) = false from decide_eq_false hr)
    have hf : b = false := by rw [← HB.out, rightP, HR.out]; rfl
    subst hf
    go_enter Try.func15, Try.ntmps15
    go_wp2
    all_goals (go_ret; exact ⟨rfl, K.out.h.below⟩)
end Go.Proofs.Ythpifplflhhkiaa
