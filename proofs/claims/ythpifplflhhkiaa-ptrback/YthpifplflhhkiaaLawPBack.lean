/-
  The walk of polderlaw09.PtrBack: it returns true, and writes nothing that was there.
-/
import Derived.Test.YthpifplflhhkiaaQo
import Derived.Test.YthpifplflhhkiaaQm
namespace Go.Proofs.Ythpifplflhhkiaa
set_option maxRecDepth 100000
open Go.RowKit M

/-- A pointer in a box, in a world that grew from w0. -/
structure PX (w0 w : World) (n : Nat) (p : Ptr) : Prop where
  box : Box w n p
  below : Below w0.heap.size w0 w
theorem PX.next {w0 w w' : World} {n : Nat} {p : Ptr} (h : PX w0 w n p) (k : Below w.heap.size w w') : PX w0 w' n p := ⟨h.box.next k, Proofs.Ythpifplflhhkiaa.next h.below k⟩

set_option maxHeartbeats 2000000 in
theorem walk_PtrBack (p : Ptr) (s : ByteArray) (w : World) (hp : p.Ok) (hs : s.size ≤ maxLen) :
    Calls Try.prog 3 #[p.val, .string s] w fun e w' => e = .returned (.bool true) ∧ Below w.heap.size w w' := by
  have K := Lib.hid (⟨Box.new w p, boxed w _⟩ : PX w _ w.heap.size p)
  have HS := Lib.hid hs
  unfold maxLen at hs
  unfold Ptr.cells at K
  by_cases hl : 3000 < s.size
  · simp only [Ptr.val, Ptr.cells]
    go_enter Try.func3, Try.ntmps3
    go_wp2_with fail
    refine (awake9_any _).mono ?_
    rintro e w1 ⟨rfl, b1⟩
    have K1 := Lib.hid (K.out.next b1)
    clear b1 K
    go_wp2_with fail
    refine (awake9_any _).mono ?_
    rintro e w2 ⟨rfl, b2⟩
    have K2 := Lib.hid (K1.out.next b2)
    clear b2 K1
    go_wp2
    go_ret
    exact ⟨rfl, K2.out.below⟩
  obtain ⟨b, hb⟩ : ∃ b, mayP p = b := ⟨_, rfl⟩
  have CB := fun w' => bytes9_any p hp w' b hb
  have HM := Lib.hid hb
  have HP := Lib.hid hp
  clear hb hp
  have h64 : (bytesB true p).size = 64 := bytesP_size p
  simp only [Ptr.val, Ptr.cells] at CB ⊢
  replace CB := Lib.hid CB
  obtain ⟨E, hE⟩ : ∃ E, readE s = E := ⟨_, rfl⟩
  have C2 := fun w' => read9_any s HS.out w'
  by_cases hz : E = 0
  · subst hz
    have HR : Hid (readP s = readP s) := Lib.hid rfl
    obtain ⟨hm, hbs⟩ := bytes_read hE
    have C3 := fun w' => bytes9_any (readP s) (readP_ok s) w' true hm
    rw [show bytesB true (readP s) = s from hbs] at C3
    rw [hE, readV_some hE] at C2
    generalize readP s = r at C2 C3
    clear hm hbs HR
    clear hE
    simp only [Ptr.val, Ptr.cells] at C2 C3
    replace C2 := Lib.hid C2
    replace C3 := Lib.hid C3
    cases b with
    | true =>
      have C1 := fun w' => read9_any (bytesB true p) (by rw [h64]; decide) w'
      rw [show bytesB true p = bytesP p from rfl, (read_bytes HP.out HM.out).1, (read_bytes HP.out HM.out).2] at C1
      rw [show bytesP p = bytesB true p from rfl] at C1
      simp only [Ptr.val, Ptr.cells] at C1
      replace C1 := Lib.hid C1
      generalize bytesB true p = y at CB C1 h64
      go_enter Try.func3, Try.ntmps3
      go_wp2_with fail
      refine (awake9_any _).mono ?_
      rintro e w1 ⟨rfl, b1⟩
      have K1 := Lib.hid (K.out.next b1)
      clear b1 K
      obtain ⟨⟨c0, c1, c2, c3, c4, c5, c6, c7, c8, c9, c10, c11, hlt⟩, _⟩ := id K1.out
      go_wp2_with fail
      refine (CB.out _).mono ?_
      rintro e w2 ⟨rfl, b2⟩
      have K2 := Lib.hid (K1.out.next b2)
      clear b2 K1
      clear c0 c1 c2 c3 c4 c5 c6 c7 c8 c9 c10 c11 hlt
      go_wp2_with fail
      refine (C1.out _).mono ?_
      rintro e w3 ⟨rfl, b3⟩
      have K3 := Lib.hid (K2.out.next b3)
      clear b3 K2
      obtain ⟨⟨c0, c1, c2, c3, c4, c5, c6, c7, c8, c9, c10, c11, hlt⟩, _⟩ := (K3.out.next (boxed w3 (.cells #[.int .i64 p.ag, .int .i64 p.aa, .int .i64 p.bg, .int .i64 p.ba, .bool p.two, .int .i64 p.sz, .int .i64 p.lv, .int .i64 p.bi, .int .u64 p.q.a, .int .u64 p.q.b, .int .u64 p.q.c, .int .u64 p.q.d] 28)))
      have K4 := Lib.hid (K3.out.next (boxed w3 (.cells #[.int .i64 p.ag, .int .i64 p.aa, .int .i64 p.bg, .int .i64 p.ba, .bool p.two, .int .i64 p.sz, .int .i64 p.lv, .int .i64 p.bi, .int .u64 p.q.a, .int .u64 p.q.b, .int .u64 p.q.c, .int .u64 p.q.d] 28)))
      go_wp2_with (first | (refine wpList_neq_on (by kernel_rfl) rfl p p rfl rfl true (eqP_self p) ?_) | fail)
      refine (C2.out _).mono ?_
      rintro e w5 ⟨rfl, b5⟩
      have K5 := Lib.hid (K4.out.next b5)
      clear b5 K4 c0 c1 c2 c3 c4 c5 c6 c7 c8 c9 c10 c11 hlt
      go_wp2_with fail
      refine (C3.out _).mono ?_
      rintro e w6 ⟨rfl, b6⟩
      have K6 := Lib.hid (next (next K5.out.below (boxed w5 _)) b6)
      clear b6 K5
      go_wp2
      go_ret
      exact ⟨rfl, K6.out⟩
    | false =>
      clear h64
      go_enter Try.func3, Try.ntmps3
      go_wp2_with fail
      refine (awake9_any _).mono ?_
      rintro e w1 ⟨rfl, b1⟩
      have K1 := Lib.hid (K.out.next b1)
      clear b1 K
      obtain ⟨⟨c0, c1, c2, c3, c4, c5, c6, c7, c8, c9, c10, c11, hlt⟩, _⟩ := id K1.out
      go_wp2_with fail
      refine (CB.out _).mono ?_
      rintro e w2 ⟨rfl, b2⟩
      have K2 := Lib.hid (K1.out.next b2)
      clear b2 K1
      clear c0 c1 c2 c3 c4 c5 c6 c7 c8 c9 c10 c11 hlt
      go_wp2_with fail
      refine (C2.out _).mono ?_
      rintro e w5 ⟨rfl, b5⟩
      have K5 := Lib.hid (K2.out.next b5)
      clear b5 K2
      go_wp2_with fail
      refine (C3.out _).mono ?_
      rintro e w6 ⟨rfl, b6⟩
      have K6 := Lib.hid (next (next K5.out.below (boxed w5 _)) b6)
      clear b6 K5
      go_wp2
      go_ret
      exact ⟨rfl, K6.out⟩
  · have C3 := fun w' => none_any noP w' true (by decide)
    rw [hE, readV_none (by rw [hE]; exact hz)] at C2
    have hz1 : (E != 0) = true := by simpa using hz
    have hz2 : (E == 0) = false := by simpa using hz
    clear hz
    clear hE
    simp only [Ptr.val, Ptr.cells, noP, zeroQ] at C2 C3
    replace C2 := Lib.hid C2
    replace C3 := Lib.hid C3
    cases b with
    | true =>
      have C1 := fun w' => read9_any (bytesB true p) (by rw [h64]; decide) w'
      rw [show bytesB true p = bytesP p from rfl, (read_bytes HP.out HM.out).1, (read_bytes HP.out HM.out).2] at C1
      rw [show bytesP p = bytesB true p from rfl] at C1
      simp only [Ptr.val, Ptr.cells] at C1
      replace C1 := Lib.hid C1
      generalize bytesB true p = y at CB C1 h64
      go_enter Try.func3, Try.ntmps3
      go_wp2_with fail
      refine (awake9_any _).mono ?_
      rintro e w1 ⟨rfl, b1⟩
      have K1 := Lib.hid (K.out.next b1)
      clear b1 K
      obtain ⟨⟨c0, c1, c2, c3, c4, c5, c6, c7, c8, c9, c10, c11, hlt⟩, _⟩ := id K1.out
      go_wp2_with fail
      refine (CB.out _).mono ?_
      rintro e w2 ⟨rfl, b2⟩
      have K2 := Lib.hid (K1.out.next b2)
      clear b2 K1
      clear c0 c1 c2 c3 c4 c5 c6 c7 c8 c9 c10 c11 hlt
      go_wp2_with fail
      refine (C1.out _).mono ?_
      rintro e w3 ⟨rfl, b3⟩
      have K3 := Lib.hid (K2.out.next b3)
      clear b3 K2
      obtain ⟨⟨c0, c1, c2, c3, c4, c5, c6, c7, c8, c9, c10, c11, hlt⟩, _⟩ := (K3.out.next (boxed w3 (.cells #[.int .i64 p.ag, .int .i64 p.aa, .int .i64 p.bg, .int .i64 p.ba, .bool p.two, .int .i64 p.sz, .int .i64 p.lv, .int .i64 p.bi, .int .u64 p.q.a, .int .u64 p.q.b, .int .u64 p.q.c, .int .u64 p.q.d] 28)))
      have K4 := Lib.hid (K3.out.next (boxed w3 (.cells #[.int .i64 p.ag, .int .i64 p.aa, .int .i64 p.bg, .int .i64 p.ba, .bool p.two, .int .i64 p.sz, .int .i64 p.lv, .int .i64 p.bi, .int .u64 p.q.a, .int .u64 p.q.b, .int .u64 p.q.c, .int .u64 p.q.d] 28)))
      go_wp2_with (first | (refine wpList_neq_on (by kernel_rfl) rfl p p rfl rfl true (eqP_self p) ?_) | fail)
      refine (C2.out _).mono ?_
      rintro e w5 ⟨rfl, b5⟩
      have K5 := Lib.hid (K4.out.next b5)
      clear b5 K4 c0 c1 c2 c3 c4 c5 c6 c7 c8 c9 c10 c11 hlt
      go_wp2_with fail
      refine (C3.out _).mono ?_
      rintro e w6 ⟨rfl, b6⟩
      have K6 := Lib.hid (next (next K5.out.below (boxed w5 _)) b6)
      clear b6 K5
      go_wp2
      go_ret
      exact ⟨rfl, K6.out⟩
    | false =>
      clear h64
      go_enter Try.func3, Try.ntmps3
      go_wp2_with fail
      refine (awake9_any _).mono ?_
      rintro e w1 ⟨rfl, b1⟩
      have K1 := Lib.hid (K.out.next b1)
      clear b1 K
      obtain ⟨⟨c0, c1, c2, c3, c4, c5, c6, c7, c8, c9, c10, c11, hlt⟩, _⟩ := id K1.out
      go_wp2_with fail
      refine (CB.out _).mono ?_
      rintro e w2 ⟨rfl, b2⟩
      have K2 := Lib.hid (K1.out.next b2)
      clear b2 K1
      clear c0 c1 c2 c3 c4 c5 c6 c7 c8 c9 c10 c11 hlt
      go_wp2_with fail
      refine (C2.out _).mono ?_
      rintro e w5 ⟨rfl, b5⟩
      have K5 := Lib.hid (K2.out.next b5)
      clear b5 K2
      go_wp2_with fail
      refine (C3.out _).mono ?_
      rintro e w6 ⟨rfl, b6⟩
      have K6 := Lib.hid (next (next K5.out.below (boxed w5 _)) b6)
      clear b6 K5
      go_wp2
      go_ret
      exact ⟨rfl, K6.out⟩
end Go.Proofs.Ythpifplflhhkiaa
