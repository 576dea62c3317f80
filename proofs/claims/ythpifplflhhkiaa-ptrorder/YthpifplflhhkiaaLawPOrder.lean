/-
  The walk of polderlaw09.PtrOrder: it returns true, and writes nothing that was there.
-/
import Derived.Test.YthpifplflhhkiaaQh
namespace Go.Proofs.Ythpifplflhhkiaa
set_option maxRecDepth 100000
open Go.RowKit M

/-- Three pointers in boxes, in a world that grew from w0. -/
structure T3 (w0 w : World) (x y z : Nat) (a b c : Ptr) : Prop where
  a : Box w x a
  b : Box w y b
  c : Box w z c
  below : Below w0.heap.size w0 w
theorem T3.next {w0 w w' : World} {x y z : Nat} {a b c : Ptr} (h : T3 w0 w x y z a b c) (k : Below w.heap.size w w') : T3 w0 w' x y z a b c := ⟨h.a.next k, h.b.next k, h.c.next k, Proofs.Ythpifplflhhkiaa.next h.below k⟩
theorem T3.start (w : World) (a b c : Ptr) : T3 w (((w.alloc (.cells a.cells 28)).alloc (.cells b.cells 28)).alloc (.cells c.cells 28)) w.heap.size (w.heap.size + 1) (w.heap.size + 2) a b c := by
  refine ⟨((Box.new w a).next (boxed _ _)).next (boxed _ _), ?_, ?_, Proofs.Ythpifplflhhkiaa.next (boxed2 _ _ _) (boxed _ _)⟩
  · have := Box.new (w.alloc (.cells a.cells 28)) b
    rw [World.size_alloc] at this
    exact this.next (boxed _ _)
  · have := Box.new ((w.alloc (.cells a.cells 28)).alloc (.cells b.cells 28)) c
    rw [World.size_alloc, World.size_alloc] at this
    exact this

theorem less_self (p : Ptr) : lessP p p = false := by simp [lessP]
theorem less_asym {p r : Ptr} (h : lessP p r = true) : lessP r p = false := by
  unfold lessP at h ⊢
  split at h <;> rename_i e1
  · split at h <;> rename_i e2
    · rw [if_pos e1.symm, if_pos e2.symm]; simp at h ⊢; omega
    · rw [if_pos e1.symm, if_neg (fun e => e2 e.symm)]; simp at h ⊢; omega
  · rw [if_neg (fun e => e1 e.symm)]; simp at h ⊢; omega
theorem less_trans {p r t : Ptr} (h : lessP p r = true) (k : lessP r t = true) : lessP p t = true := by
  unfold lessP at h k ⊢
  split at h <;> rename_i e1
  · split at h <;> rename_i e2
    · rw [e1, e2]
      split at k <;> rename_i e3
      · rw [if_pos e3]
        split at k <;> rename_i e4
        · rw [if_pos e4]; simp at h k ⊢; omega
        · rw [if_neg e4]; simpa using k
      · rw [if_neg e3]; simpa using k
    · rw [e1]
      split at k <;> rename_i e3
      · rw [if_pos e3]
        split at k <;> rename_i e4
        · rw [e4] at e2 h; rw [if_neg e2]; simpa using h
        · simp at h k; rw [if_neg (by omega)]; simp; omega
      · rw [if_neg e3]; simpa using k
  · split at k <;> rename_i e3
    · rw [e3] at e1 h; rw [if_neg e1]; simpa using h
    · simp at h k; rw [if_neg (by omega)]; simp; omega
theorem less_total {p r : Ptr} (h : lessP p r = false) (k : lessP r p = false) : p.bi = r.bi ∧ p.ag = r.ag ∧ p.aa = r.aa := by
  unfold lessP at h k
  split at h <;> rename_i e1
  · rw [if_pos e1.symm] at k
    split at h <;> rename_i e2
    · rw [if_pos e2.symm] at k; simp at h k; exact ⟨e1, e2, by omega⟩
    · rw [if_neg (fun e => e2 e.symm)] at k; simp at h k; omega
  · rw [if_neg (fun e => e1 e.symm)] at k; simp at h k; omega
theorem less_val (p r : Ptr) (b : Bool) (hb : lessP p r = b) (w : World) :
    Calls Try.prog 11 #[p.val, r.val] w fun e w' => e = .returned (.bool b) ∧ Below w.heap.size w w' := hb ▸ less_any p r w

set_option maxHeartbeats 2000000 in
theorem walk_PtrOrder (a b c : Ptr) (w : World) (_ha : a.Ok) (_hb : b.Ok) (_hc : c.Ok) :
    Calls Try.prog 4 #[a.val, b.val, c.val] w fun e w' => e = .returned (.bool true) ∧ Below w.heap.size w w' := by
  have K := Lib.hid (T3.start w a b c)
  unfold Ptr.cells at K

  have Caa := less_val a a false (less_self a)
  simp only [Ptr.val, Ptr.cells] at Caa
  replace Caa := Lib.hid Caa
  cases h1 : lessP a b with
  | true =>
    have Cab := less_val a b true h1
    simp only [Ptr.val, Ptr.cells] at Cab
    replace Cab := Lib.hid Cab
    have Cba := less_val b a false (less_asym h1)
    simp only [Ptr.val, Ptr.cells] at Cba
    replace Cba := Lib.hid Cba
    cases h2 : lessP b c with
    | true =>
      have Cbc := less_val b c true h2
      simp only [Ptr.val, Ptr.cells] at Cbc
      replace Cbc := Lib.hid Cbc
      have Cac := less_val a c true (less_trans h1 h2)
      simp only [Ptr.val, Ptr.cells] at Cac
      replace Cac := Lib.hid Cac
      clear h1 h2
      simp only [Ptr.val, Ptr.cells]
      go_enter Try.func4, Try.ntmps4
      go_wp2_with fail
      refine (awake9_any _).mono ?_
      rintro e w1 ⟨rfl, b1⟩
      have K1 := Lib.hid (K.out.next b1)
      clear b1 K
      obtain ⟨⟨p0, p1, p2, p3, p4, p5, p6, p7, p8, p9, p10, p11, lp⟩, ⟨q0, q1, q2, q3, q4, q5, q6, q7, q8, q9, q10, q11, lq⟩, ⟨r0, r1, r2, r3, r4, r5, r6, r7, r8, r9, r10, r11, lr⟩, _⟩ := id K1.out
      go_wp2_with fail
      refine (Caa.out _).mono ?_
      rintro e w2 ⟨rfl, b2⟩
      have K2 := Lib.hid (K1.out.next b2)
      clear b2 K1 p0 p1 p2 p3 p4 p5 p6 p7 p8 p9 p10 p11 q0 q1 q2 q3 q4 q5 q6 q7 q8 q9 q10 q11 r0 r1 r2 r3 r4 r5 r6 r7 r8 r9 r10 r11 lp lq lr
      obtain ⟨⟨p0, p1, p2, p3, p4, p5, p6, p7, p8, p9, p10, p11, lp⟩, ⟨q0, q1, q2, q3, q4, q5, q6, q7, q8, q9, q10, q11, lq⟩, ⟨r0, r1, r2, r3, r4, r5, r6, r7, r8, r9, r10, r11, lr⟩, _⟩ := id K2.out
      go_wp2_with fail
      refine (Cab.out _).mono ?_
      rintro e w3 ⟨rfl, b3⟩
      have K3 := Lib.hid (K2.out.next b3)
      clear b3 K2 p0 p1 p2 p3 p4 p5 p6 p7 p8 p9 p10 p11 q0 q1 q2 q3 q4 q5 q6 q7 q8 q9 q10 q11 r0 r1 r2 r3 r4 r5 r6 r7 r8 r9 r10 r11 lp lq lr
      obtain ⟨⟨p0, p1, p2, p3, p4, p5, p6, p7, p8, p9, p10, p11, lp⟩, ⟨q0, q1, q2, q3, q4, q5, q6, q7, q8, q9, q10, q11, lq⟩, ⟨r0, r1, r2, r3, r4, r5, r6, r7, r8, r9, r10, r11, lr⟩, _⟩ := id K3.out
      go_wp2_with fail
      refine (Cba.out _).mono ?_
      rintro e w4 ⟨rfl, b4⟩
      have K4 := Lib.hid (K3.out.next b4)
      clear b4 K3 p0 p1 p2 p3 p4 p5 p6 p7 p8 p9 p10 p11 q0 q1 q2 q3 q4 q5 q6 q7 q8 q9 q10 q11 r0 r1 r2 r3 r4 r5 r6 r7 r8 r9 r10 r11 lp lq lr
      obtain ⟨⟨p0, p1, p2, p3, p4, p5, p6, p7, p8, p9, p10, p11, lp⟩, ⟨q0, q1, q2, q3, q4, q5, q6, q7, q8, q9, q10, q11, lq⟩, ⟨r0, r1, r2, r3, r4, r5, r6, r7, r8, r9, r10, r11, lr⟩, _⟩ := id K4.out
      go_wp2_with fail
      refine (Cab.out _).mono ?_
      rintro e w5 ⟨rfl, b5⟩
      have K5 := Lib.hid (K4.out.next b5)
      clear b5 K4 p0 p1 p2 p3 p4 p5 p6 p7 p8 p9 p10 p11 q0 q1 q2 q3 q4 q5 q6 q7 q8 q9 q10 q11 r0 r1 r2 r3 r4 r5 r6 r7 r8 r9 r10 r11 lp lq lr
      obtain ⟨⟨p0, p1, p2, p3, p4, p5, p6, p7, p8, p9, p10, p11, lp⟩, ⟨q0, q1, q2, q3, q4, q5, q6, q7, q8, q9, q10, q11, lq⟩, ⟨r0, r1, r2, r3, r4, r5, r6, r7, r8, r9, r10, r11, lr⟩, _⟩ := id K5.out
      go_wp2_with fail
      refine (Cbc.out _).mono ?_
      rintro e w6 ⟨rfl, b6⟩
      have K6 := Lib.hid (K5.out.next b6)
      clear b6 K5 p0 p1 p2 p3 p4 p5 p6 p7 p8 p9 p10 p11 q0 q1 q2 q3 q4 q5 q6 q7 q8 q9 q10 q11 r0 r1 r2 r3 r4 r5 r6 r7 r8 r9 r10 r11 lp lq lr
      obtain ⟨⟨p0, p1, p2, p3, p4, p5, p6, p7, p8, p9, p10, p11, lp⟩, ⟨q0, q1, q2, q3, q4, q5, q6, q7, q8, q9, q10, q11, lq⟩, ⟨r0, r1, r2, r3, r4, r5, r6, r7, r8, r9, r10, r11, lr⟩, _⟩ := id K6.out
      go_wp2_with fail
      refine (Cac.out _).mono ?_
      rintro e w7 ⟨rfl, b7⟩
      have K7 := Lib.hid (K6.out.next b7)
      clear b7 K6 p0 p1 p2 p3 p4 p5 p6 p7 p8 p9 p10 p11 q0 q1 q2 q3 q4 q5 q6 q7 q8 q9 q10 q11 r0 r1 r2 r3 r4 r5 r6 r7 r8 r9 r10 r11 lp lq lr
      obtain ⟨⟨p0, p1, p2, p3, p4, p5, p6, p7, p8, p9, p10, p11, lp⟩, ⟨q0, q1, q2, q3, q4, q5, q6, q7, q8, q9, q10, q11, lq⟩, ⟨r0, r1, r2, r3, r4, r5, r6, r7, r8, r9, r10, r11, lr⟩, _⟩ := id K7.out
      go_wp2_with fail
      refine (Cab.out _).mono ?_
      rintro e w8 ⟨rfl, b8⟩
      have K8 := Lib.hid (K7.out.next b8)
      clear b8 K7 p0 p1 p2 p3 p4 p5 p6 p7 p8 p9 p10 p11 q0 q1 q2 q3 q4 q5 q6 q7 q8 q9 q10 q11 r0 r1 r2 r3 r4 r5 r6 r7 r8 r9 r10 r11 lp lq lr
      obtain ⟨⟨p0, p1, p2, p3, p4, p5, p6, p7, p8, p9, p10, p11, lp⟩, ⟨q0, q1, q2, q3, q4, q5, q6, q7, q8, q9, q10, q11, lq⟩, ⟨r0, r1, r2, r3, r4, r5, r6, r7, r8, r9, r10, r11, lr⟩, _⟩ := id K8.out
      go_wp2
      go_ret
      exact ⟨rfl, K8.out.below⟩
    | false =>
      have Cbc := less_val b c false h2
      simp only [Ptr.val, Ptr.cells] at Cbc
      replace Cbc := Lib.hid Cbc
      clear h1 h2
      simp only [Ptr.val, Ptr.cells]
      go_enter Try.func4, Try.ntmps4
      go_wp2_with fail
      refine (awake9_any _).mono ?_
      rintro e w1 ⟨rfl, b1⟩
      have K1 := Lib.hid (K.out.next b1)
      clear b1 K
      obtain ⟨⟨p0, p1, p2, p3, p4, p5, p6, p7, p8, p9, p10, p11, lp⟩, ⟨q0, q1, q2, q3, q4, q5, q6, q7, q8, q9, q10, q11, lq⟩, ⟨r0, r1, r2, r3, r4, r5, r6, r7, r8, r9, r10, r11, lr⟩, _⟩ := id K1.out
      go_wp2_with fail
      refine (Caa.out _).mono ?_
      rintro e w2 ⟨rfl, b2⟩
      have K2 := Lib.hid (K1.out.next b2)
      clear b2 K1 p0 p1 p2 p3 p4 p5 p6 p7 p8 p9 p10 p11 q0 q1 q2 q3 q4 q5 q6 q7 q8 q9 q10 q11 r0 r1 r2 r3 r4 r5 r6 r7 r8 r9 r10 r11 lp lq lr
      obtain ⟨⟨p0, p1, p2, p3, p4, p5, p6, p7, p8, p9, p10, p11, lp⟩, ⟨q0, q1, q2, q3, q4, q5, q6, q7, q8, q9, q10, q11, lq⟩, ⟨r0, r1, r2, r3, r4, r5, r6, r7, r8, r9, r10, r11, lr⟩, _⟩ := id K2.out
      go_wp2_with fail
      refine (Cab.out _).mono ?_
      rintro e w3 ⟨rfl, b3⟩
      have K3 := Lib.hid (K2.out.next b3)
      clear b3 K2 p0 p1 p2 p3 p4 p5 p6 p7 p8 p9 p10 p11 q0 q1 q2 q3 q4 q5 q6 q7 q8 q9 q10 q11 r0 r1 r2 r3 r4 r5 r6 r7 r8 r9 r10 r11 lp lq lr
      obtain ⟨⟨p0, p1, p2, p3, p4, p5, p6, p7, p8, p9, p10, p11, lp⟩, ⟨q0, q1, q2, q3, q4, q5, q6, q7, q8, q9, q10, q11, lq⟩, ⟨r0, r1, r2, r3, r4, r5, r6, r7, r8, r9, r10, r11, lr⟩, _⟩ := id K3.out
      go_wp2_with fail
      refine (Cba.out _).mono ?_
      rintro e w4 ⟨rfl, b4⟩
      have K4 := Lib.hid (K3.out.next b4)
      clear b4 K3 p0 p1 p2 p3 p4 p5 p6 p7 p8 p9 p10 p11 q0 q1 q2 q3 q4 q5 q6 q7 q8 q9 q10 q11 r0 r1 r2 r3 r4 r5 r6 r7 r8 r9 r10 r11 lp lq lr
      obtain ⟨⟨p0, p1, p2, p3, p4, p5, p6, p7, p8, p9, p10, p11, lp⟩, ⟨q0, q1, q2, q3, q4, q5, q6, q7, q8, q9, q10, q11, lq⟩, ⟨r0, r1, r2, r3, r4, r5, r6, r7, r8, r9, r10, r11, lr⟩, _⟩ := id K4.out
      go_wp2_with fail
      refine (Cab.out _).mono ?_
      rintro e w5 ⟨rfl, b5⟩
      have K5 := Lib.hid (K4.out.next b5)
      clear b5 K4 p0 p1 p2 p3 p4 p5 p6 p7 p8 p9 p10 p11 q0 q1 q2 q3 q4 q5 q6 q7 q8 q9 q10 q11 r0 r1 r2 r3 r4 r5 r6 r7 r8 r9 r10 r11 lp lq lr
      obtain ⟨⟨p0, p1, p2, p3, p4, p5, p6, p7, p8, p9, p10, p11, lp⟩, ⟨q0, q1, q2, q3, q4, q5, q6, q7, q8, q9, q10, q11, lq⟩, ⟨r0, r1, r2, r3, r4, r5, r6, r7, r8, r9, r10, r11, lr⟩, _⟩ := id K5.out
      go_wp2_with fail
      refine (Cbc.out _).mono ?_
      rintro e w6 ⟨rfl, b6⟩
      have K6 := Lib.hid (K5.out.next b6)
      clear b6 K5 p0 p1 p2 p3 p4 p5 p6 p7 p8 p9 p10 p11 q0 q1 q2 q3 q4 q5 q6 q7 q8 q9 q10 q11 r0 r1 r2 r3 r4 r5 r6 r7 r8 r9 r10 r11 lp lq lr
      obtain ⟨⟨p0, p1, p2, p3, p4, p5, p6, p7, p8, p9, p10, p11, lp⟩, ⟨q0, q1, q2, q3, q4, q5, q6, q7, q8, q9, q10, q11, lq⟩, ⟨r0, r1, r2, r3, r4, r5, r6, r7, r8, r9, r10, r11, lr⟩, _⟩ := id K6.out
      go_wp2_with fail
      refine (Cab.out _).mono ?_
      rintro e w7 ⟨rfl, b7⟩
      have K7 := Lib.hid (K6.out.next b7)
      clear b7 K6 p0 p1 p2 p3 p4 p5 p6 p7 p8 p9 p10 p11 q0 q1 q2 q3 q4 q5 q6 q7 q8 q9 q10 q11 r0 r1 r2 r3 r4 r5 r6 r7 r8 r9 r10 r11 lp lq lr
      obtain ⟨⟨p0, p1, p2, p3, p4, p5, p6, p7, p8, p9, p10, p11, lp⟩, ⟨q0, q1, q2, q3, q4, q5, q6, q7, q8, q9, q10, q11, lq⟩, ⟨r0, r1, r2, r3, r4, r5, r6, r7, r8, r9, r10, r11, lr⟩, _⟩ := id K7.out
      go_wp2
      go_ret
      exact ⟨rfl, K7.out.below⟩
  | false =>
    have Cab := less_val a b false h1
    simp only [Ptr.val, Ptr.cells] at Cab
    replace Cab := Lib.hid Cab
    cases h2 : lessP b a with
    | true =>
      have Cba := less_val b a true h2
      simp only [Ptr.val, Ptr.cells] at Cba
      replace Cba := Lib.hid Cba
      clear h1 h2
      simp only [Ptr.val, Ptr.cells]
      go_enter Try.func4, Try.ntmps4
      go_wp2_with fail
      refine (awake9_any _).mono ?_
      rintro e w1 ⟨rfl, b1⟩
      have K1 := Lib.hid (K.out.next b1)
      clear b1 K
      obtain ⟨⟨p0, p1, p2, p3, p4, p5, p6, p7, p8, p9, p10, p11, lp⟩, ⟨q0, q1, q2, q3, q4, q5, q6, q7, q8, q9, q10, q11, lq⟩, ⟨r0, r1, r2, r3, r4, r5, r6, r7, r8, r9, r10, r11, lr⟩, _⟩ := id K1.out
      go_wp2_with fail
      refine (Caa.out _).mono ?_
      rintro e w2 ⟨rfl, b2⟩
      have K2 := Lib.hid (K1.out.next b2)
      clear b2 K1 p0 p1 p2 p3 p4 p5 p6 p7 p8 p9 p10 p11 q0 q1 q2 q3 q4 q5 q6 q7 q8 q9 q10 q11 r0 r1 r2 r3 r4 r5 r6 r7 r8 r9 r10 r11 lp lq lr
      obtain ⟨⟨p0, p1, p2, p3, p4, p5, p6, p7, p8, p9, p10, p11, lp⟩, ⟨q0, q1, q2, q3, q4, q5, q6, q7, q8, q9, q10, q11, lq⟩, ⟨r0, r1, r2, r3, r4, r5, r6, r7, r8, r9, r10, r11, lr⟩, _⟩ := id K2.out
      go_wp2_with fail
      refine (Cab.out _).mono ?_
      rintro e w3 ⟨rfl, b3⟩
      have K3 := Lib.hid (K2.out.next b3)
      clear b3 K2 p0 p1 p2 p3 p4 p5 p6 p7 p8 p9 p10 p11 q0 q1 q2 q3 q4 q5 q6 q7 q8 q9 q10 q11 r0 r1 r2 r3 r4 r5 r6 r7 r8 r9 r10 r11 lp lq lr
      obtain ⟨⟨p0, p1, p2, p3, p4, p5, p6, p7, p8, p9, p10, p11, lp⟩, ⟨q0, q1, q2, q3, q4, q5, q6, q7, q8, q9, q10, q11, lq⟩, ⟨r0, r1, r2, r3, r4, r5, r6, r7, r8, r9, r10, r11, lr⟩, _⟩ := id K3.out
      go_wp2_with fail
      refine (Cab.out _).mono ?_
      rintro e w4 ⟨rfl, b4⟩
      have K4 := Lib.hid (K3.out.next b4)
      clear b4 K3 p0 p1 p2 p3 p4 p5 p6 p7 p8 p9 p10 p11 q0 q1 q2 q3 q4 q5 q6 q7 q8 q9 q10 q11 r0 r1 r2 r3 r4 r5 r6 r7 r8 r9 r10 r11 lp lq lr
      obtain ⟨⟨p0, p1, p2, p3, p4, p5, p6, p7, p8, p9, p10, p11, lp⟩, ⟨q0, q1, q2, q3, q4, q5, q6, q7, q8, q9, q10, q11, lq⟩, ⟨r0, r1, r2, r3, r4, r5, r6, r7, r8, r9, r10, r11, lr⟩, _⟩ := id K4.out
      go_wp2_with fail
      refine (Cab.out _).mono ?_
      rintro e w5 ⟨rfl, b5⟩
      have K5 := Lib.hid (K4.out.next b5)
      clear b5 K4 p0 p1 p2 p3 p4 p5 p6 p7 p8 p9 p10 p11 q0 q1 q2 q3 q4 q5 q6 q7 q8 q9 q10 q11 r0 r1 r2 r3 r4 r5 r6 r7 r8 r9 r10 r11 lp lq lr
      obtain ⟨⟨p0, p1, p2, p3, p4, p5, p6, p7, p8, p9, p10, p11, lp⟩, ⟨q0, q1, q2, q3, q4, q5, q6, q7, q8, q9, q10, q11, lq⟩, ⟨r0, r1, r2, r3, r4, r5, r6, r7, r8, r9, r10, r11, lr⟩, _⟩ := id K5.out
      go_wp2_with fail
      refine (Cba.out _).mono ?_
      rintro e w6 ⟨rfl, b6⟩
      have K6 := Lib.hid (K5.out.next b6)
      clear b6 K5 p0 p1 p2 p3 p4 p5 p6 p7 p8 p9 p10 p11 q0 q1 q2 q3 q4 q5 q6 q7 q8 q9 q10 q11 r0 r1 r2 r3 r4 r5 r6 r7 r8 r9 r10 r11 lp lq lr
      obtain ⟨⟨p0, p1, p2, p3, p4, p5, p6, p7, p8, p9, p10, p11, lp⟩, ⟨q0, q1, q2, q3, q4, q5, q6, q7, q8, q9, q10, q11, lq⟩, ⟨r0, r1, r2, r3, r4, r5, r6, r7, r8, r9, r10, r11, lr⟩, _⟩ := id K6.out
      go_wp2
      go_ret
      exact ⟨rfl, K6.out.below⟩
    | false =>
      have Cba := less_val b a false h2
      simp only [Ptr.val, Ptr.cells] at Cba
      replace Cba := Lib.hid Cba
      have HE := Lib.hid (less_total h1 h2)
      clear h1 h2
      simp only [Ptr.val, Ptr.cells]
      go_enter Try.func4, Try.ntmps4
      go_wp2_with fail
      refine (awake9_any _).mono ?_
      rintro e w1 ⟨rfl, b1⟩
      have K1 := Lib.hid (K.out.next b1)
      clear b1 K
      obtain ⟨⟨p0, p1, p2, p3, p4, p5, p6, p7, p8, p9, p10, p11, lp⟩, ⟨q0, q1, q2, q3, q4, q5, q6, q7, q8, q9, q10, q11, lq⟩, ⟨r0, r1, r2, r3, r4, r5, r6, r7, r8, r9, r10, r11, lr⟩, _⟩ := id K1.out
      go_wp2_with fail
      refine (Caa.out _).mono ?_
      rintro e w2 ⟨rfl, b2⟩
      have K2 := Lib.hid (K1.out.next b2)
      clear b2 K1 p0 p1 p2 p3 p4 p5 p6 p7 p8 p9 p10 p11 q0 q1 q2 q3 q4 q5 q6 q7 q8 q9 q10 q11 r0 r1 r2 r3 r4 r5 r6 r7 r8 r9 r10 r11 lp lq lr
      obtain ⟨⟨p0, p1, p2, p3, p4, p5, p6, p7, p8, p9, p10, p11, lp⟩, ⟨q0, q1, q2, q3, q4, q5, q6, q7, q8, q9, q10, q11, lq⟩, ⟨r0, r1, r2, r3, r4, r5, r6, r7, r8, r9, r10, r11, lr⟩, _⟩ := id K2.out
      go_wp2_with fail
      refine (Cab.out _).mono ?_
      rintro e w3 ⟨rfl, b3⟩
      have K3 := Lib.hid (K2.out.next b3)
      clear b3 K2 p0 p1 p2 p3 p4 p5 p6 p7 p8 p9 p10 p11 q0 q1 q2 q3 q4 q5 q6 q7 q8 q9 q10 q11 r0 r1 r2 r3 r4 r5 r6 r7 r8 r9 r10 r11 lp lq lr
      obtain ⟨⟨p0, p1, p2, p3, p4, p5, p6, p7, p8, p9, p10, p11, lp⟩, ⟨q0, q1, q2, q3, q4, q5, q6, q7, q8, q9, q10, q11, lq⟩, ⟨r0, r1, r2, r3, r4, r5, r6, r7, r8, r9, r10, r11, lr⟩, _⟩ := id K3.out
      go_wp2_with fail
      refine (Cab.out _).mono ?_
      rintro e w4 ⟨rfl, b4⟩
      have K4 := Lib.hid (K3.out.next b4)
      clear b4 K3 p0 p1 p2 p3 p4 p5 p6 p7 p8 p9 p10 p11 q0 q1 q2 q3 q4 q5 q6 q7 q8 q9 q10 q11 r0 r1 r2 r3 r4 r5 r6 r7 r8 r9 r10 r11 lp lq lr
      obtain ⟨⟨p0, p1, p2, p3, p4, p5, p6, p7, p8, p9, p10, p11, lp⟩, ⟨q0, q1, q2, q3, q4, q5, q6, q7, q8, q9, q10, q11, lq⟩, ⟨r0, r1, r2, r3, r4, r5, r6, r7, r8, r9, r10, r11, lr⟩, _⟩ := id K4.out
      go_wp2_with fail
      refine (Cab.out _).mono ?_
      rintro e w5 ⟨rfl, b5⟩
      have K5 := Lib.hid (K4.out.next b5)
      clear b5 K4 p0 p1 p2 p3 p4 p5 p6 p7 p8 p9 p10 p11 q0 q1 q2 q3 q4 q5 q6 q7 q8 q9 q10 q11 r0 r1 r2 r3 r4 r5 r6 r7 r8 r9 r10 r11 lp lq lr
      obtain ⟨⟨p0, p1, p2, p3, p4, p5, p6, p7, p8, p9, p10, p11, lp⟩, ⟨q0, q1, q2, q3, q4, q5, q6, q7, q8, q9, q10, q11, lq⟩, ⟨r0, r1, r2, r3, r4, r5, r6, r7, r8, r9, r10, r11, lr⟩, _⟩ := id K5.out
      go_wp2_with fail
      refine (Cba.out _).mono ?_
      rintro e w6 ⟨rfl, b6⟩
      have K6 := Lib.hid (K5.out.next b6)
      clear b6 K5 p0 p1 p2 p3 p4 p5 p6 p7 p8 p9 p10 p11 q0 q1 q2 q3 q4 q5 q6 q7 q8 q9 q10 q11 r0 r1 r2 r3 r4 r5 r6 r7 r8 r9 r10 r11 lp lq lr
      obtain ⟨⟨p0, p1, p2, p3, p4, p5, p6, p7, p8, p9, p10, p11, lp⟩, ⟨q0, q1, q2, q3, q4, q5, q6, q7, q8, q9, q10, q11, lq⟩, ⟨r0, r1, r2, r3, r4, r5, r6, r7, r8, r9, r10, r11, lr⟩, _⟩ := id K6.out
      obtain ⟨e1, e2, e3⟩ := HE.out
      go_wp2
      go_ret
      exact ⟨rfl, K6.out.below⟩
end Go.Proofs.Ythpifplflhhkiaa
