/-
  A block's columns: cols.Of.
-/
import Derived.Test.YthpifplflhhkiaaCd
import Derived.Test.YthpifplflhhkiaaReg
namespace Go.Proofs.Ythpifplflhhkiaa
set_option maxRecDepth 100000
open Go.RowKit

theorem ltge (a b : Int) : a < b ∨ b ≤ a := by omega
theorem takesG_pos (x : Int × Int) (z : Int) (h1 : 1 ≤ z) (h4 : z ≤ 4) : 1 ≤ takesG x z ∧ takesG x z ≤ 6 := by
  unfold takesG
  split
  · omega
  · split
    · omega
    · split
      · omega
      · split
        · split <;> omega
        · omega
theorem gives_bounds {x : Int × Int} {s : Int} (hx : okG x = true) (s0 : 24 ≤ s) (s1 : s ≤ 4096) : 8 ≤ gives x s ∧ gives x s ≤ 32640 := by
  obtain ⟨h1, h8⟩ := okG_wide hx
  unfold gives
  split
  · have a : (s - 16) * x.2 ≤ 4080 * 8 := Int.mul_le_mul (by omega) h8 (by omega) (by omega)
    have b : (s - 16) * 1 ≤ (s - 16) * x.2 := Int.mul_le_mul_of_nonneg_left h1 (by omega)
    omega
  · omega
/-- A block that may be there: of group k, from t on, of z sectors. -/
structure Blk (l : List (Int × Int)) (s : Int) (k t z : Nat) : Prop where
  right : RightM l s
  hk : k < l.length
  z1 : 1 ≤ z
  z4 : z ≤ 4
  fit : (t : Int) + takesG l[k] z ≤ gives l[k] s
def mayL (l : List (Int × Int)) (s k t z : Int) : Bool := hasL l s k && decide (1 ≤ z) && decide (z ≤ 4) && decide (0 ≤ t) && decide (t + takesG (l.getD k.toNat (0, 0)) z ≤ gives (l.getD k.toNat (0, 0)) s)
theorem getD_at {l : List (Int × Int)} {k : Nat} (h : k < l.length) : l.getD k (0, 0) = l[k] := by
  rw [List.getD_eq_getElem?_getD, List.getElem?_eq_getElem h]; rfl
theorem mayL_iff {l : List (Int × Int)} {s k t z : Int} : mayL l s k t z = true ↔ ∃ k' t' z' : Nat, k = k' ∧ t = t' ∧ z = z' ∧ Blk l s k' t' z' := by
  unfold mayL
  simp only [Bool.and_eq_true, decide_eq_true_eq, hasL_iff]
  constructor
  · rintro ⟨⟨⟨⟨⟨h1, k', rfl, hk⟩, h2⟩, h3⟩, h4⟩, h5⟩
    obtain ⟨t', rfl⟩ := Int.eq_ofNat_of_zero_le h4
    obtain ⟨z', rfl⟩ := Int.eq_ofNat_of_zero_le (show 0 ≤ z by omega)
    refine ⟨k', t', z', rfl, rfl, rfl, h1, hk, by omega, by omega, ?_⟩
    rw [← getD_at hk]
    exact h5
  · rintro ⟨k', t', z', rfl, rfl, rfl, h⟩
    refine ⟨⟨⟨⟨⟨h.right, k', rfl, h.hk⟩, by have := h.z1; omega⟩, by have := h.z4; omega⟩, by omega⟩, ?_⟩
    have := h.fit
    rw [← getD_at h.hk] at this
    exact this
/-- A block's columns. -/
def colsG (f : Int) (x : Int × Int) (t z : Nat) : List C := if x.1 = 0 then mirL f t x.2.toNat z else parTo f t x.2.toNat z
def colsOf (l : List (Int × Int)) (k t z : Nat) : List C := colsG (aheadL l k) (l.getD k (0, 0)) t z

theorem Blk.bounds {l : List (Int × Int)} {s : Int} {k t z : Nat} (h : Blk l s k t z) : (t : Int) ≤ 32640 ∧ k ≤ 4 := by
  have hk := h.hk
  have h1 := gives_bounds (h.right.all k h.hk) h.right.s0 h.right.s1
  have h2 := takesG_pos l[k] z (by have := h.z1; omega) (by have := h.z4; omega)
  have h3 := h.fit
  have h4 := h.hk
  have h5 := h.right.few
  omega

structure KP (w0 : World) (b p : Nat) (a : Option Addr) (n c : Nat) (s : Int) (l : List (Int × Int)) (k t : Int) where
  v : World
  h : HeldP w0 v b p a n c s l k t
theorem HeldP.drew {w0 w : World} {b p : Nat} {a : Option Addr} {n c : Nat} {s : Int} {l : List (Int × Int)} {k t : Int} (h : HeldP w0 w b p a n c s l k t) : HeldP w0 w.drew b p a n c s l k t := h.next (Below.refl _ w).drew

set_option maxHeartbeats 2000000 in
theorem of_bad (l : List (Int × Int)) (s : Int) (v : Value) (w : World) (h : Meas w v l s) (k t z : Int) (hk : -9223372036854775808 ≤ k ∧ k ≤ 9223372036854775807) (ht : -9223372036854775808 ≤ t ∧ t ≤ 9223372036854775807) (hz : -9223372036854775808 ≤ z ∧ z ≤ 9223372036854775807)
    (hno : mayL l s k t z = false) :
    Calls Try.prog 42 #[v, .agg #[.int .i64 k, .int .i64 t], .int .i64 z] w fun e w' => e = .returned (.tuple #[.slice none 0 0, .int .i64 1]) ∧ Below w.heap.size w w' := by
  have K1 := h
  obtain ⟨a, n, c, rfl, hg⟩ := id h
  replace K1 := Lib.hid (HeldP.start k t K1)
  by_cases hno1 : hasL l s k = false ∨ z < 1 ∨ 4 < z
  · have HN := Lib.hid hno1
    have HI := Lib.hid hk
    have HZ := Lib.hid hz
    clear h hg hno hno1 hk hz ht
    go_enter Try.func42, Try.ntmps42
    go_wp2_with fail
    refine (takes_none l s _ _ K1.out.h.m k z HI.out HZ.out HN.out).mono ?_
    rintro e w1 ⟨rfl, b1⟩
    have K2 := Lib.hid (K1.out.next b1)
    clear b1 K1
    go_wp2_with fail
    haveI hne : Nonempty (KP w w.heap.size (w.heap.size + 1) a n c s l k t) := ⟨⟨w1, K2.out⟩⟩
    refine wp_region_family (KP.v (w0 := w) (b := w.heap.size) (p := w.heap.size + 1) (a := a) (n := n) (c := c) (s := s) (l := l) (k := k) (t := t)) (by kernel_rfl) (by kernel_rfl) ⟨⟨_, K2.out.drew⟩, rfl⟩ ?_
    repeat (go_big_quiet_step (first | fail))
    refine wpQuiet_nil ?_
    rintro w7 ⟨⟨w4, K4⟩, rfl⟩
    go_wp2
    go_ret2
    exact ⟨rfl, K4.h.below⟩
  · have hl1 : hasL l s k = true := by
      cases e : hasL l s k with
      | true => rfl
      | false => exact absurd (.inl e) hno1
    obtain ⟨hr, k, rfl, hkl⟩ := hasL_iff.1 hl1
    obtain ⟨z1, z4⟩ : 1 ≤ z ∧ z ≤ 4 := by
      constructor
      · rcases ltge z 1 with h | h
        · exact absurd (.inr (.inl h)) hno1
        · omega
      · rcases ltge 4 z with h | h
        · exact absurd (.inr (.inr h)) hno1
        · omega
    obtain ⟨x, hx⟩ : ∃ x, takesG l[k] z = x := ⟨_, rfl⟩
    obtain ⟨y, hy⟩ : ∃ y, gives l[k] s = y := ⟨_, rfl⟩
    obtain ⟨x1, x6⟩ : 1 ≤ x ∧ x ≤ 6 := by have := takesG_pos l[k] z z1 z4; omega
    obtain ⟨y8, yb⟩ : 8 ≤ y ∧ y ≤ 32640 := by have := gives_bounds (hr.all k hkl) hr.s0 hr.s1; omega
    have hxz : (x == 0) = false := by simp; omega
    have hor : t < 0 ∨ y < t + x := by
      rcases ltge t 0 with h | h
      · exact .inl h
      · refine .inr ?_
        rcases ltge y (t + x) with h' | h'
        · exact h'
        · have : mayL l s (k : Int) t z = true := mayL_iff.2 ⟨k, t.toNat, z.toNat, rfl, by omega, by omega, hr, hkl, by omega, by omega, by
            have e1 : (t.toNat : Int) = t := by omega
            have e2 : (z.toNat : Int) = z := by omega
            rw [e1, e2, hx, hy]; exact h'⟩
          rw [this] at hno
          cases hno
    have HX := Lib.hid hx
    have HY := Lib.hid hy
    have HR := Lib.hid hr
    obtain ⟨t0, t1⟩ := ht
    clear h hg hno hno1 hk hz hx hy hl1 hr
    go_enter Try.func42, Try.ntmps42
    go_wp2_with fail
    refine (takes_some l s _ _ K1.out.h.m HR.out k hkl z z1 z4 x HX.out).mono ?_
    rintro e w1 ⟨rfl, b1⟩
    have K2 := Lib.hid (K1.out.next b1)
    clear b1 K1
    go_wp2_with fail
    haveI hne : Nonempty (KP w w.heap.size (w.heap.size + 1) a n c s l (k : Int) t) := ⟨⟨w1, K2.out⟩⟩
    have CS : Hid (∀ q : KP w w.heap.size (w.heap.size + 1) a n c s l (k : Int) t, Calls Try.prog 52 #[.agg #[.slice a n c, .int .i64 s], .int .i64 (k : Int)] q.v fun e w' => e = .returned (.int .i64 y) ∧ ∃ q' : KP w w.heap.size (w.heap.size + 1) a n c s l (k : Int) t, w' = q'.v) :=
      Lib.hid fun q => (sectors_some l s _ q.v q.h.h.m HR.out k hkl y HY.out).mono fun e w' ⟨he, hb⟩ => ⟨he, ⟨w', q.h.next hb⟩, rfl⟩
    have k0 := fun q : KP w w.heap.size (w.heap.size + 1) a n c s l (k : Int) t => q.h.h.c0
    have k1 := fun q : KP w w.heap.size (w.heap.size + 1) a n c s l (k : Int) t => q.h.h.c1
    have m0 := fun q : KP w w.heap.size (w.heap.size + 1) a n c s l (k : Int) t => q.h.p0
    have m1 := fun q : KP w w.heap.size (w.heap.size + 1) a n c s l (k : Int) t => q.h.p1
    by_cases htn : t < 0
    · have hd : decide (t < 0) = true := decide_eq_true htn
      clear hor
      refine wp_region_family (KP.v (w0 := w) (b := w.heap.size) (p := w.heap.size + 1) (a := a) (n := n) (c := c) (s := s) (l := l) (k := (k : Int)) (t := t)) (by kernel_rfl) (by kernel_rfl) ⟨⟨_, K2.out.drew⟩, rfl⟩ ?_
      repeat (go_big_quiet_step (first | (go_at_call 52; exact CS.out _)))
      refine wpQuiet_nil ?_
      rintro w7 ⟨⟨w4, K4⟩, rfl⟩
      go_wp2
      go_ret2
      exact ⟨rfl, K4.h.below⟩
    · have hd : decide (t < 0) = false := decide_eq_false htn
      have hd2 : decide (y - x < t) = true := decide_eq_true (by omega)
      clear hor
      refine wp_region_family (KP.v (w0 := w) (b := w.heap.size) (p := w.heap.size + 1) (a := a) (n := n) (c := c) (s := s) (l := l) (k := (k : Int)) (t := t)) (by kernel_rfl) (by kernel_rfl) ⟨⟨_, K2.out.drew⟩, rfl⟩ ?_
      repeat (go_big_quiet_step (first | (go_at_call 52; exact CS.out _)))
      refine wpQuiet_nil ?_
      rintro w7 ⟨⟨w4, K4⟩, rfl⟩
      go_wp2
      go_ret2
      exact ⟨rfl, K4.h.below⟩

set_option maxHeartbeats 2000000 in
theorem of_ok (l : List (Int × Int)) (s : Int) (v : Value) (w : World) (h : Meas w v l s) (k t z : Nat) (hB : Blk l s k t z) :
    Calls Try.prog 42 #[v, .agg #[.int .i64 (k : Int), .int .i64 (t : Int)], .int .i64 (z : Int)] w fun e w' => ∃ v', e = .returned (.tuple #[v', .int .i64 0]) ∧ OwnC w.heap.size w' v' (colsOf l k t z) ∧ Below w.heap.size w w' := by
  have K1 := h
  obtain ⟨a, n, c, rfl, hg⟩ := id h
  replace K1 := Lib.hid (HeldP.start (k : Int) (t : Int) K1)
  obtain ⟨tb, kb⟩ := hB.bounds
  obtain ⟨hr, hkl, z1, z4, hfit⟩ := hB
  have hn := hg.1.2.1
  have hn4 : n ≤ 4 := by rw [← hn]; exact hr.few
  have hkn : k < n := by rw [← hn]; exact hkl
  obtain ⟨x, hx⟩ : ∃ x, takesG l[k] z = x := ⟨_, rfl⟩
  obtain ⟨y, hy⟩ : ∃ y, gives l[k] s = y := ⟨_, rfl⟩
  obtain ⟨x1, x6⟩ : 1 ≤ x ∧ x ≤ 6 := by have := takesG_pos l[k] z (by omega) (by omega); omega
  obtain ⟨y8, yb⟩ : 8 ≤ y ∧ y ≤ 32640 := by have := gives_bounds (hr.all k hkl) hr.s0 hr.s1; omega
  rw [hx, hy] at hfit
  have hxz : (x == 0) = false := by simp; omega
  obtain ⟨kk, u, hlk, hok⟩ : ∃ kk u, l[k] = (kk, u) ∧ okG (kk, u) = true := ⟨l[k].1, l[k].2, rfl, hr.all k hkl⟩
  have HLK : Hid (∃ hk : k < l.length, l[k] = (kk, u)) := Lib.hid ⟨hkl, hlk⟩
  have HX := Lib.hid hx
  have HY := Lib.hid hy
  have HR := Lib.hid hr
  have HOK := Lib.hid hok
  have HCO : Hid (colsOf l k t z = colsG (aheadL l k) (kk, u) t z) := Lib.hid (by unfold colsOf; rw [getD_at hkl, hlk])
  obtain ⟨u0, hu⟩ := Int.eq_ofNat_of_zero_le (show 0 ≤ u by have := okG_wide hok; omega)
  subst hu
  clear h hg hx hy hr hn hlk hok
  go_enter Try.func42, Try.ntmps42
  go_wp2_with fail
  refine (takes_some l s _ _ K1.out.h.m HR.out k hkl z (by omega) (by omega) x HX.out).mono ?_
  rintro e w1 ⟨rfl, b1⟩
  have K2 := Lib.hid (K1.out.next b1)
  clear b1 K1
  go_wp2_with fail
  haveI hne : Nonempty (KP w w.heap.size (w.heap.size + 1) a n c s l (k : Int) t) := ⟨⟨w1, K2.out⟩⟩
  have CS : Hid (∀ q : KP w w.heap.size (w.heap.size + 1) a n c s l (k : Int) t, Calls Try.prog 52 #[.agg #[.slice a n c, .int .i64 s], .int .i64 (k : Int)] q.v fun e w' => e = .returned (.int .i64 y) ∧ ∃ q' : KP w w.heap.size (w.heap.size + 1) a n c s l (k : Int) t, w' = q'.v) :=
    Lib.hid fun q => (sectors_some l s _ q.v q.h.h.m HR.out k hkl y HY.out).mono fun e w' ⟨he, hb⟩ => ⟨he, ⟨w', q.h.next hb⟩, rfl⟩
  have k0 := fun q : KP w w.heap.size (w.heap.size + 1) a n c s l (k : Int) t => q.h.h.c0
  have k1 := fun q : KP w w.heap.size (w.heap.size + 1) a n c s l (k : Int) t => q.h.h.c1
  have m0 := fun q : KP w w.heap.size (w.heap.size + 1) a n c s l (k : Int) t => q.h.p0
  have m1 := fun q : KP w w.heap.size (w.heap.size + 1) a n c s l (k : Int) t => q.h.p1
  have hd : decide ((t : Int) < 0) = false := decide_eq_false (by omega)
  have hd2 : decide (y - x < (t : Int)) = false := decide_eq_false (by omega)
  refine wp_region_family (KP.v (w0 := w) (b := w.heap.size) (p := w.heap.size + 1) (a := a) (n := n) (c := c) (s := s) (l := l) (k := (k : Int)) (t := t)) (by kernel_rfl) (by kernel_rfl) ⟨⟨_, K2.out.drew⟩, rfl⟩ ?_
  repeat (go_big_quiet_step (first | (go_at_call 52; exact CS.out _)))
  refine wpQuiet_nil ?_
  rintro w7 ⟨⟨w4, K4⟩, rfl⟩
  clear k0 k1 m0 m1 CS hne K2 w1
  have K5 := Lib.hid K4
  obtain ⟨g, o, rfl, hlt, e0, e1⟩ := K4.h.at_ HLK.out.1 HLK.out.2
  dsimp only at e0 e1
  have c0 := K4.h.c0
  have c1 := K4.h.c1
  have p0 := K4.p0
  have p1 := K4.p1
  clear K4
  rcases okG_cases HOK.out with ⟨rfl, u1, u8⟩ | ⟨rfl, u1, u8⟩
  · have tb2 : (t : Int) ≤ 4096 := by
      have h1 := HY.out
      obtain ⟨hk', e⟩ := HLK.out
      rw [e] at h1
      have h2 : s - 16 = y := h1
      have := HR.out.s1
      omega
    go_wp2_with fail
    refine (mirror_any l s _ _ K5.out.h.m HR.out k hkl u0 (by obtain ⟨_, e⟩ := HLK.out; exact e) (t : Int) (by omega) tb2 z z4).mono ?_
    rintro e w8 ⟨v8, rfl, ho, hb⟩
    go_wp2
    go_ret2
    refine ⟨_, rfl, ?_, next K5.out.h.below hb⟩
    rw [HCO.out]
    exact ho.lower K5.out.h.below.size
  · have tb2 : t ≤ 40000 := by omega
    go_wp2_with fail
    refine (parity_any l s _ _ K5.out.h.m HR.out k hkl u0 (by obtain ⟨_, e⟩ := HLK.out; exact e) t tb2 z z4).mono ?_
    rintro e w8 ⟨v8, rfl, ho, hb⟩
    go_wp2
    go_ret2
    refine ⟨_, rfl, ?_, next K5.out.h.below hb⟩
    rw [HCO.out]
    exact ho.lower K5.out.h.below.size
end Go.Proofs.Ythpifplflhhkiaa
