/-
  ptr.Bytes: what it answers; the example.
-/
import Derived.Test.YthpifplflhhkiaaQf
namespace Go.Proofs.Ythpifplflhhkiaa
set_option maxRecDepth 100000
open Go.RowKit M

/-- The one number, the six numbers, and a pointer's bytes. -/
def oneP (x : Ptr) : Int := if x.two then x.sz + 256 * x.lv + 65536 else x.sz + 256 * x.lv
def numsP (x : Ptr) : List Int := [x.ag, x.aa, x.bg, x.ba, oneP x, x.bi]
def smallP (x : Ptr) : Prop := 0 ≤ x.sz ∧ x.sz ≤ 255 ∧ 0 ≤ x.lv ∧ x.lv ≤ 255
def mayP (x : Ptr) : Bool := decide (0 ≤ x.sz ∧ x.sz ≤ 255 ∧ 0 ≤ x.lv ∧ x.lv ≤ 255) && (numsP x).all okN
def bytesP (x : Ptr) : ByteArray := padK (catN (numsP x) 6 ++ bytesQ x.q) 64
def bytesB (b : Bool) (x : Ptr) : ByteArray := if b then bytesP x else ⟨#[]⟩
def erB (b : Bool) : Int := if b then 0 else 1
theorem raw_size (x : Ptr) : (catN (numsP x) 6 ++ bytesQ x.q).size = 56 := by
  rw [ByteArray.size_append, catN_size, bytesQ_size]
theorem bytesP_size (x : Ptr) : (bytesP x).size = 64 := by
  rw [bytesP, padK_size, raw_size]; rfl
theorem boxed2 (w : World) (o o' : Obj) : Below w.heap.size w ((w.alloc o).alloc o') := next (boxed w o) (boxed _ o')

/-- Behind lay: the sum's bytes, and the padding. -/
theorem six_new (U : World) (m : Nat) (hm : U.heap.size = m) (a b c d e f : Int) (ty : TypeId) : ∀ i (h : i < [a, b, c, d, e, f].length), (U.alloc (.cells #[.int .i64 a, .int .i64 b, .int .i64 c, .int .i64 d, .int .i64 e, .int .i64 f] ty)).cell? ⟨m, i, none⟩ = some (.int .i64 [a, b, c, d, e, f][i]) := by
  subst hm
  intro i h
  match i, h with
  | 0, _ => simp
  | 1, _ => simp
  | 2, _ => simp
  | 3, _ => simp
  | 4, _ => simp
  | 5, _ => simp
theorem all6 {a b c d e f : Int} (h0 : I64 a) (h1 : I64 b) (h2 : I64 c) (h3 : I64 d) (h4 : I64 e) (h5 : I64 f) : ∀ i (h : i < [a, b, c, d, e, f].length), I64 [a, b, c, d, e, f][i] := by
  intro i h
  match i, h with
  | 0, _ => exact h0
  | 1, _ => exact h1
  | 2, _ => exact h2
  | 3, _ => exact h3
  | 4, _ => exact h4
  | 5, _ => exact h5

theorem bytesQ_any (q : Q) (w : World) (hq : q.Ok) :
    Calls Try.prog 21 #[.agg #[.int .u64 q.a, .int .u64 q.b, .int .u64 q.c, .int .u64 q.d]] w fun e w' => e = .returned (.string (bytesQ q)) ∧ Below w.heap.size w w' := bytes_any q w hq
set_option maxHeartbeats 1000000 in
theorem bytes9_any (x : Ptr) (hx : x.Ok) (w : World) (b : Bool) (hb : mayP x = b) :
    Calls Try.prog 8 #[x.val] w fun e w' => e = .returned (.tuple #[.string (bytesB b x), .int .i64 (erB b)]) ∧ Below w.heap.size w w' := by
  have K := Lib.hid (Box.new w x)
  have HB := Lib.hid hb
  have HO := Lib.hid hx
  have HS := Lib.hid (raw_size x)
  clear hb
  unfold Ptr.cells at K
  simp only [Ptr.val, Ptr.cells]
  obtain ⟨⟨ag0, ag1⟩, ⟨aa0, aa1⟩, ⟨bg0, bg1⟩, ⟨ba0, ba1⟩, ⟨sz0, sz1⟩, ⟨lv0, lv1⟩, ⟨bi0, bi1⟩, hq⟩ := hx
  have HQ := Lib.hid hq
  clear hq
  by_cases hr : 0 ≤ x.sz ∧ x.sz ≤ 255 ∧ 0 ≤ x.lv ∧ x.lv ≤ 255
  · obtain ⟨r0, r1, r2, r3⟩ := id hr
    have HR := Lib.hid (decide_eq_true hr)
    clear hr
    have rest : ∀ one : Int, oneP x = one → 0 ≤ one → one ≤ 1000000 →
        Calls Try.prog 19 #[.slice (some ⟨w.heap.size + 1, 0, none⟩) 6 6] ((w.alloc (.cells #[.int .i64 x.ag, .int .i64 x.aa, .int .i64 x.bg, .int .i64 x.ba, .bool x.two, .int .i64 x.sz, .int .i64 x.lv, .int .i64 x.bi, .int .u64 x.q.a, .int .u64 x.q.b, .int .u64 x.q.c, .int .u64 x.q.d] 28)).alloc (.cells #[.int .i64 x.ag, .int .i64 x.aa, .int .i64 x.bg, .int .i64 x.ba, .int .i64 one, .int .i64 x.bi] 3)) fun e w' => e = .returned (.tuple #[.string (laidS b (numsP x) 6), .bool b]) ∧ Below w.heap.size w w' ∧ Box w' w.heap.size x := by
      intro one h1 h2 h3
      have e : numsP x = [x.ag, x.aa, x.bg, x.ba, one, x.bi] := by rw [numsP, h1]
      rw [e]
      refine (lay_any [x.ag, x.aa, x.bg, x.ba, one, x.bi] (w.heap.size + 1) 6 6 _ rfl (by omega) (by simp) (six_new _ _ (by simp) _ _ _ _ _ _ _) (all6 ⟨ag0, ag1⟩ ⟨aa0, aa1⟩ ⟨bg0, bg1⟩ ⟨ba0, ba1⟩ ⟨by omega, by omega⟩ ⟨bi0, bi1⟩) b (by rw [← e, ← HB.out, mayP, HR.out, Bool.true_and])).mono ?_
      rintro e w1 ⟨rfl, b1⟩
      exact ⟨rfl, next (boxed2 _ _ _) b1, (K.out.next (boxed _ _)).next b1⟩
    have REST := Lib.hid rest
    clear rest
    go_enter Try.func8, Try.ntmps8
    by_cases ht : x.two = true
    · have H1 : Hid (oneP x = x.sz + 256 * x.lv + 65536) := Lib.hid (by rw [oneP, if_pos ht])
      rw [ht] at REST K ⊢
      clear ht
      go_wp2_with fail
      cases b with
      | false =>
        refine (REST.out _ H1.out (by omega) (by omega)).mono ?_
        rintro e w1 ⟨rfl, b1, k1⟩
        have HW := Lib.hid b1
        clear b1 k1 K REST
        go_wp2
        go_ret2
        exact ⟨rfl, HW.out⟩
      | true =>
        refine (REST.out _ H1.out (by omega) (by omega)).mono ?_
        rintro e w1 ⟨rfl, b1, k1⟩
        have HW := Lib.hid b1
        obtain ⟨c0, c1, c2, c3, c4, c5, c6, c7, c8, c9, c10, c11, hlt⟩ := id k1
        clear b1 k1 K REST c0 c1 c2 c3 c4 c5 c6 c7
        have hys : (laidS true (numsP x) 6).size = 24 := by rw [laidS, if_pos rfl, catN_size]
        have hzs := bytesQ_size x.q
        have HE := Lib.hid (show padK (laidS true (numsP x) 6 ++ bytesQ x.q) 64 = bytesB true x from rfl)
        generalize laidS true (numsP x) 6 = y at hys HE ⊢
        have HCB := Lib.hid (bytesQ_any x.q w1 HQ.out)
        generalize bytesQ x.q = z at hzs HE HCB
        have hyz : (y ++ z).size = 56 := by rw [ByteArray.size_append, hys, hzs]
        go_wp2_with fail
        refine HCB.out.mono ?_
        rintro e w2 ⟨rfl, b2⟩
        have HW2 := Lib.hid (next HW.out b2)
        clear b2 c8 c9 c10 c11 hlt HCB
        go_wp2_with fail
        refine (pad_pos (y ++ z) 64 _ (by omega) (by omega) (by omega)).mono ?_
        rintro e w3 ⟨rfl, b3⟩
        have HW3 := Lib.hid (next HW2.out b3)
        clear b3
        rw [HE.out]
        go_wp2
        go_ret2
        exact ⟨rfl, HW3.out⟩
    · have ht' : x.two = false := by simpa using ht
      have H1 : Hid (oneP x = x.sz + 256 * x.lv) := Lib.hid (by rw [oneP, if_neg ht])
      rw [ht'] at REST K ⊢
      clear ht ht'
      go_wp2_with fail
      cases b with
      | false =>
        refine (REST.out _ H1.out (by omega) (by omega)).mono ?_
        rintro e w1 ⟨rfl, b1, k1⟩
        have HW := Lib.hid b1
        clear b1 k1 K REST
        go_wp2
        go_ret2
        exact ⟨rfl, HW.out⟩
      | true =>
        refine (REST.out _ H1.out (by omega) (by omega)).mono ?_
        rintro e w1 ⟨rfl, b1, k1⟩
        have HW := Lib.hid b1
        obtain ⟨c0, c1, c2, c3, c4, c5, c6, c7, c8, c9, c10, c11, hlt⟩ := id k1
        clear b1 k1 K REST c0 c1 c2 c3 c4 c5 c6 c7
        have hys : (laidS true (numsP x) 6).size = 24 := by rw [laidS, if_pos rfl, catN_size]
        have hzs := bytesQ_size x.q
        have HE := Lib.hid (show padK (laidS true (numsP x) 6 ++ bytesQ x.q) 64 = bytesB true x from rfl)
        generalize laidS true (numsP x) 6 = y at hys HE ⊢
        have HCB := Lib.hid (bytesQ_any x.q w1 HQ.out)
        generalize bytesQ x.q = z at hzs HE HCB
        have hyz : (y ++ z).size = 56 := by rw [ByteArray.size_append, hys, hzs]
        go_wp2_with fail
        refine HCB.out.mono ?_
        rintro e w2 ⟨rfl, b2⟩
        have HW2 := Lib.hid (next HW.out b2)
        clear b2 c8 c9 c10 c11 hlt HCB
        go_wp2_with fail
        refine (pad_pos (y ++ z) 64 _ (by omega) (by omega) (by omega)).mono ?_
        rintro e w3 ⟨rfl, b3⟩
        have HW3 := Lib.hid (next HW2.out b3)
        clear b3
        rw [HE.out]
        go_wp2
        go_ret2
        exact ⟨rfl, HW3.out⟩
  · have hf : b = false := by rw [← HB.out, mayP, decide_eq_false hr, Bool.false_and]
    subst hf
    go_enter Try.func8, Try.ntmps8
    go_wp2
    all_goals (go_ret2; exact ⟨rfl, boxed _ _⟩)
end Go.Proofs.Ythpifplflhhkiaa
