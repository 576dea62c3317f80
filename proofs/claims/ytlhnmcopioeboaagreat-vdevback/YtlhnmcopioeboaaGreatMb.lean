/-
  A block's columns: cols.Of.
  A place that came in, opened; cols.Of of any block.
  Plain facts on columns and their parity (no program is named here).
  Texts in memory: a slice of them that came in, or that is one's own; a row of bytes.
  A pool's devices in memory: what is kept while some of their blocks turn; a set of numbers.
  What pass, rest, last and Read of a device answer.
  Write.
  Write: the walk.
  vdev's here, Right and put.
  Worlds that grew from a given one: a family for regions that draw their order.
-/
import Derived.Test.YtlhnmcopioeboaaGreatMa
import Derived.SliceStrings
import Derived.Laws.AppendOwn
import Derived.Laws.OwnMore
import Derived.Laws.IdiomStrings
import Derived.Laws.BytesString
import Derived.Laws.Cells
import Derived.Laws.BitsAllLaws
import Derived.Lib.AppendZeros
import Derived.Maps.OwnSet
import Derived.IntWalk
import Derived.Lib.LazyBuf
import Derived.Lib.SlBuf
import Derived.Maps.AppendAt
import Derived.Deep.RegionHeld3
import Derived.Great.BuildSlice

/- A block's columns: cols.Of. -/
namespace Go.Proofs.YtlhnmcopioeboaaGreat
set_option maxRecDepth 100000
open Go.RowKit

theorem ltge (a b : Int) : a < b ∨ b ≤ a := by omega
theorem takesG_pos (x : Int × Int) (z : Int) (h1 : 1 ≤ z) (h4 : z ≤ 4) : 1 ≤ takesG x z ∧ takesG x z ≤ 6 := by
  unfold takesG
  split
  · omega
  · split
    · omega
    · split
      · omega
      · split
        · split <;> omega
        · omega
theorem gives_bounds {x : Int × Int} {s : Int} (hx : okG x = true) (s0 : 24 ≤ s) (s1 : s ≤ 4096) : 8 ≤ gives x s ∧ gives x s ≤ 32640 := by
  obtain ⟨h1, h8⟩ := okG_wide hx
  unfold gives
  split
  · have a : (s - 16) * x.2 ≤ 4080 * 8 := Int.mul_le_mul (by omega) h8 (by omega) (by omega)
    have b : (s - 16) * 1 ≤ (s - 16) * x.2 := Int.mul_le_mul_of_nonneg_left h1 (by omega)
    omega
  · omega
/-- A block that may be there: of group k, from t on, of z sectors. -/
structure Blk (l : List (Int × Int)) (s : Int) (k t z : Nat) : Prop where
  right : RightM l s
  hk : k < l.length
  z1 : 1 ≤ z
  z4 : z ≤ 4
  fit : (t : Int) + takesG l[k] z ≤ gives l[k] s
def mayL (l : List (Int × Int)) (s k t z : Int) : Bool := hasL l s k && decide (1 ≤ z) && decide (z ≤ 4) && decide (0 ≤ t) && decide (t + takesG (l.getD k.toNat (0, 0)) z ≤ gives (l.getD k.toNat (0, 0)) s)
theorem getD_at {l : List (Int × Int)} {k : Nat} (h : k < l.length) : l.getD k (0, 0) = l[k] := by
  rw [List.getD_eq_getElem?_getD, List.getElem?_eq_getElem h]; rfl
theorem mayL_iff {l : List (Int × Int)} {s k t z : Int} : mayL l s k t z = true ↔ ∃ k' t' z' : Nat, k = k' ∧ t = t' ∧ z = z' ∧ Blk l s k' t' z' := by
  unfold mayL
  simp only [Bool.and_eq_true, decide_eq_true_eq, hasL_iff]
  constructor
  · rintro ⟨⟨⟨⟨⟨h1, k', rfl, hk⟩, h2⟩, h3⟩, h4⟩, h5⟩
    obtain ⟨t', rfl⟩ := Int.eq_ofNat_of_zero_le h4
    obtain ⟨z', rfl⟩ := Int.eq_ofNat_of_zero_le (show 0 ≤ z by omega)
    refine ⟨k', t', z', rfl, rfl, rfl, h1, hk, by omega, by omega, ?_⟩
    rw [← getD_at hk]
    exact h5
  · rintro ⟨k', t', z', rfl, rfl, rfl, h⟩
    refine ⟨⟨⟨⟨⟨h.right, k', rfl, h.hk⟩, by have := h.z1; omega⟩, by have := h.z4; omega⟩, by omega⟩, ?_⟩
    have := h.fit
    rw [← getD_at h.hk] at this
    exact this
/-- A block's columns. -/
def colsG (f : Int) (x : Int × Int) (t z : Nat) : List C := if x.1 = 0 then mirL f t x.2.toNat z else parTo f t x.2.toNat z
def colsOf (l : List (Int × Int)) (k t z : Nat) : List C := colsG (aheadL l k) (l.getD k (0, 0)) t z

theorem Blk.bounds {l : List (Int × Int)} {s : Int} {k t z : Nat} (h : Blk l s k t z) : (t : Int) ≤ 32640 ∧ k ≤ 4 := by
  have hk := h.hk
  have h1 := gives_bounds (h.right.all k h.hk) h.right.s0 h.right.s1
  have h2 := takesG_pos l[k] z (by have := h.z1; omega) (by have := h.z4; omega)
  have h3 := h.fit
  have h4 := h.hk
  have h5 := h.right.few
  omega

structure KP (w0 : World) (b p : Nat) (a : Option Addr) (n c : Nat) (s : Int) (l : List (Int × Int)) (k t : Int) where
  v : World
  h : HeldP w0 v b p a n c s l k t
theorem HeldP.drew {w0 w : World} {b p : Nat} {a : Option Addr} {n c : Nat} {s : Int} {l : List (Int × Int)} {k t : Int} (h : HeldP w0 w b p a n c s l k t) : HeldP w0 w.drew b p a n c s l k t := h.next (Below.refl _ w).drew

set_option maxHeartbeats 2000000 in
theorem of_bad (l : List (Int × Int)) (s : Int) (v : Value) (w : World) (h : Meas w v l s) (k t z : Int) (hk : -9223372036854775808 ≤ k ∧ k ≤ 9223372036854775807) (ht : -9223372036854775808 ≤ t ∧ t ≤ 9223372036854775807) (hz : -9223372036854775808 ≤ z ∧ z ≤ 9223372036854775807)
    (hno : mayL l s k t z = false) :
    Calls Tryz.prog 16 #[v, .agg #[.int .i64 k, .int .i64 t], .int .i64 z] w fun e w' => e = .returned (.tuple #[.slice none 0 0, .int .i64 1]) ∧ Below w.heap.size w w' := by
  have K1 := h
  obtain ⟨a, n, c, rfl, hg⟩ := id h
  replace K1 := Lib.hid (HeldP.start k t K1)
  by_cases hno1 : hasL l s k = false ∨ z < 1 ∨ 4 < z
  · have HN := Lib.hid hno1
    have HI := Lib.hid hk
    have HZ := Lib.hid hz
    clear h hg hno hno1 hk hz ht
    go_enter Tryz.func16, Tryz.ntmps16
    go_wp2_with fail
    refine (takes_none l s _ _ K1.out.h.m k z HI.out HZ.out HN.out).mono ?_
    rintro e w1 ⟨rfl, b1⟩
    have K2 := Lib.hid (K1.out.next b1)
    clear b1 K1
    go_wp2_with fail
    haveI hne : Nonempty (KP w w.heap.size (w.heap.size + 1) a n c s l k t) := ⟨⟨w1, K2.out⟩⟩
    refine wp_region_family (KP.v (w0 := w) (b := w.heap.size) (p := w.heap.size + 1) (a := a) (n := n) (c := c) (s := s) (l := l) (k := k) (t := t)) (by kernel_rfl) (by kernel_rfl) ⟨⟨_, K2.out.drew⟩, rfl⟩ ?_
    repeat (go_big_quiet_step (first | fail))
    refine wpQuiet_nil ?_
    rintro w7 ⟨⟨w4, K4⟩, rfl⟩
    go_wp2
    go_ret2
    exact ⟨rfl, K4.h.below⟩
  · have hl1 : hasL l s k = true := by
      cases e : hasL l s k with
      | true => rfl
      | false => exact absurd (.inl e) hno1
    obtain ⟨hr, k, rfl, hkl⟩ := hasL_iff.1 hl1
    obtain ⟨z1, z4⟩ : 1 ≤ z ∧ z ≤ 4 := by
      constructor
      · rcases ltge z 1 with h | h
        · exact absurd (.inr (.inl h)) hno1
        · omega
      · rcases ltge 4 z with h | h
        · exact absurd (.inr (.inr h)) hno1
        · omega
    obtain ⟨x, hx⟩ : ∃ x, takesG l[k] z = x := ⟨_, rfl⟩
    obtain ⟨y, hy⟩ : ∃ y, gives l[k] s = y := ⟨_, rfl⟩
    obtain ⟨x1, x6⟩ : 1 ≤ x ∧ x ≤ 6 := by have := takesG_pos l[k] z z1 z4; omega
    obtain ⟨y8, yb⟩ : 8 ≤ y ∧ y ≤ 32640 := by have := gives_bounds (hr.all k hkl) hr.s0 hr.s1; omega
    have hxz : (x == 0) = false := by simp; omega
    have hor : t < 0 ∨ y < t + x := by
      rcases ltge t 0 with h | h
      · exact .inl h
      · refine .inr ?_
        rcases ltge y (t + x) with h' | h'
        · exact h'
        · have : mayL l s (k : Int) t z = true := mayL_iff.2 ⟨k, t.toNat, z.toNat, rfl, by omega, by omega, hr, hkl, by omega, by omega, by
            have e1 : (t.toNat : Int) = t := by omega
            have e2 : (z.toNat : Int) = z := by omega
            rw [e1, e2, hx, hy]; exact h'⟩
          rw [this] at hno
          cases hno
    have HX := Lib.hid hx
    have HY := Lib.hid hy
    have HR := Lib.hid hr
    obtain ⟨t0, t1⟩ := ht
    clear h hg hno hno1 hk hz hx hy hl1 hr
    go_enter Tryz.func16, Tryz.ntmps16
    go_wp2_with fail
    refine (takes_some l s _ _ K1.out.h.m HR.out k hkl z z1 z4 x HX.out).mono ?_
    rintro e w1 ⟨rfl, b1⟩
    have K2 := Lib.hid (K1.out.next b1)
    clear b1 K1
    go_wp2_with fail
    haveI hne : Nonempty (KP w w.heap.size (w.heap.size + 1) a n c s l (k : Int) t) := ⟨⟨w1, K2.out⟩⟩
    have CS : Hid (∀ q : KP w w.heap.size (w.heap.size + 1) a n c s l (k : Int) t, Calls Tryz.prog 36 #[.agg #[.slice a n c, .int .i64 s], .int .i64 (k : Int)] q.v fun e w' => e = .returned (.int .i64 y) ∧ ∃ q' : KP w w.heap.size (w.heap.size + 1) a n c s l (k : Int) t, w' = q'.v) :=
      Lib.hid fun q => (sectors_some l s _ q.v q.h.h.m HR.out k hkl y HY.out).mono fun e w' ⟨he, hb⟩ => ⟨he, ⟨w', q.h.next hb⟩, rfl⟩
    have k0 := fun q : KP w w.heap.size (w.heap.size + 1) a n c s l (k : Int) t => q.h.h.c0
    have k1 := fun q : KP w w.heap.size (w.heap.size + 1) a n c s l (k : Int) t => q.h.h.c1
    have m0 := fun q : KP w w.heap.size (w.heap.size + 1) a n c s l (k : Int) t => q.h.p0
    have m1 := fun q : KP w w.heap.size (w.heap.size + 1) a n c s l (k : Int) t => q.h.p1
    by_cases htn : t < 0
    · have hd : decide (t < 0) = true := decide_eq_true htn
      clear hor
      refine wp_region_family (KP.v (w0 := w) (b := w.heap.size) (p := w.heap.size + 1) (a := a) (n := n) (c := c) (s := s) (l := l) (k := (k : Int)) (t := t)) (by kernel_rfl) (by kernel_rfl) ⟨⟨_, K2.out.drew⟩, rfl⟩ ?_
      repeat (go_big_quiet_step (first | (go_at_call 36; exact CS.out _)))
      refine wpQuiet_nil ?_
      rintro w7 ⟨⟨w4, K4⟩, rfl⟩
      go_wp2
      go_ret2
      exact ⟨rfl, K4.h.below⟩
    · have hd : decide (t < 0) = false := decide_eq_false htn
      have hd2 : decide (y - x < t) = true := decide_eq_true (by omega)
      clear hor
      refine wp_region_family (KP.v (w0 := w) (b := w.heap.size) (p := w.heap.size + 1) (a := a) (n := n) (c := c) (s := s) (l := l) (k := (k : Int)) (t := t)) (by kernel_rfl) (by kernel_rfl) ⟨⟨_, K2.out.drew⟩, rfl⟩ ?_
      repeat (go_big_quiet_step (first | (go_at_call 36; exact CS.out _)))
      refine wpQuiet_nil ?_
      rintro w7 ⟨⟨w4, K4⟩, rfl⟩
      go_wp2
      go_ret2
      exact ⟨rfl, K4.h.below⟩

set_option maxHeartbeats 2000000 in
theorem of_ok (l : List (Int × Int)) (s : Int) (v : Value) (w : World) (h : Meas w v l s) (k t z : Nat) (hB : Blk l s k t z) :
    Calls Tryz.prog 16 #[v, .agg #[.int .i64 (k : Int), .int .i64 (t : Int)], .int .i64 (z : Int)] w fun e w' => ∃ v', e = .returned (.tuple #[v', .int .i64 0]) ∧ OwnC w.heap.size w' v' (colsOf l k t z) ∧ Below w.heap.size w w' := by
  have K1 := h
  obtain ⟨a, n, c, rfl, hg⟩ := id h
  replace K1 := Lib.hid (HeldP.start (k : Int) (t : Int) K1)
  obtain ⟨tb, kb⟩ := hB.bounds
  obtain ⟨hr, hkl, z1, z4, hfit⟩ := hB
  have hn := hg.1.2.1
  have hn4 : n ≤ 4 := by rw [← hn]; exact hr.few
  have hkn : k < n := by rw [← hn]; exact hkl
  obtain ⟨x, hx⟩ : ∃ x, takesG l[k] z = x := ⟨_, rfl⟩
  obtain ⟨y, hy⟩ : ∃ y, gives l[k] s = y := ⟨_, rfl⟩
  obtain ⟨x1, x6⟩ : 1 ≤ x ∧ x ≤ 6 := by have := takesG_pos l[k] z (by omega) (by omega); omega
  obtain ⟨y8, yb⟩ : 8 ≤ y ∧ y ≤ 32640 := by have := gives_bounds (hr.all k hkl) hr.s0 hr.s1; omega
  rw [hx, hy] at hfit
  have hxz : (x == 0) = false := by simp; omega
  obtain ⟨kk, u, hlk, hok⟩ : ∃ kk u, l[k] = (kk, u) ∧ okG (kk, u) = true := ⟨l[k].1, l[k].2, rfl, hr.all k hkl⟩
  have HLK : Hid (∃ hk : k < l.length, l[k] = (kk, u)) := Lib.hid ⟨hkl, hlk⟩
  have HX := Lib.hid hx
  have HY := Lib.hid hy
  have HR := Lib.hid hr
  have HOK := Lib.hid hok
  have HCO : Hid (colsOf l k t z = colsG (aheadL l k) (kk, u) t z) := Lib.hid (by unfold colsOf; rw [getD_at hkl, hlk])
  obtain ⟨u0, hu⟩ := Int.eq_ofNat_of_zero_le (show 0 ≤ u by have := okG_wide hok; omega)
  subst hu
  clear h hg hx hy hr hn hlk hok
  go_enter Tryz.func16, Tryz.ntmps16
  go_wp2_with fail
  refine (takes_some l s _ _ K1.out.h.m HR.out k hkl z (by omega) (by omega) x HX.out).mono ?_
  rintro e w1 ⟨rfl, b1⟩
  have K2 := Lib.hid (K1.out.next b1)
  clear b1 K1
  go_wp2_with fail
  haveI hne : Nonempty (KP w w.heap.size (w.heap.size + 1) a n c s l (k : Int) t) := ⟨⟨w1, K2.out⟩⟩
  have CS : Hid (∀ q : KP w w.heap.size (w.heap.size + 1) a n c s l (k : Int) t, Calls Tryz.prog 36 #[.agg #[.slice a n c, .int .i64 s], .int .i64 (k : Int)] q.v fun e w' => e = .returned (.int .i64 y) ∧ ∃ q' : KP w w.heap.size (w.heap.size + 1) a n c s l (k : Int) t, w' = q'.v) :=
    Lib.hid fun q => (sectors_some l s _ q.v q.h.h.m HR.out k hkl y HY.out).mono fun e w' ⟨he, hb⟩ => ⟨he, ⟨w', q.h.next hb⟩, rfl⟩
  have k0 := fun q : KP w w.heap.size (w.heap.size + 1) a n c s l (k : Int) t => q.h.h.c0
  have k1 := fun q : KP w w.heap.size (w.heap.size + 1) a n c s l (k : Int) t => q.h.h.c1
  have m0 := fun q : KP w w.heap.size (w.heap.size + 1) a n c s l (k : Int) t => q.h.p0
  have m1 := fun q : KP w w.heap.size (w.heap.size + 1) a n c s l (k : Int) t => q.h.p1
  have hd : decide ((t : Int) < 0) = false := decide_eq_false (by omega)
  have hd2 : decide (y - x < (t : Int)) = false := decide_eq_false (by omega)
  refine wp_region_family (KP.v (w0 := w) (b := w.heap.size) (p := w.heap.size + 1) (a := a) (n := n) (c := c) (s := s) (l := l) (k := (k : Int)) (t := t)) (by kernel_rfl) (by kernel_rfl) ⟨⟨_, K2.out.drew⟩, rfl⟩ ?_
  repeat (go_big_quiet_step (first | (go_at_call 36; exact CS.out _)))
  refine wpQuiet_nil ?_
  rintro w7 ⟨⟨w4, K4⟩, rfl⟩
  clear k0 k1 m0 m1 CS hne K2 w1
  have K5 := Lib.hid K4
  obtain ⟨g, o, rfl, hlt, e0, e1⟩ := K4.h.at_ HLK.out.1 HLK.out.2
  dsimp only at e0 e1
  have c0 := K4.h.c0
  have c1 := K4.h.c1
  have p0 := K4.p0
  have p1 := K4.p1
  clear K4
  rcases okG_cases HOK.out with ⟨rfl, u1, u8⟩ | ⟨rfl, u1, u8⟩
  · have tb2 : (t : Int) ≤ 4096 := by
      have h1 := HY.out
      obtain ⟨hk', e⟩ := HLK.out
      rw [e] at h1
      have h2 : s - 16 = y := h1
      have := HR.out.s1
      omega
    go_wp2_with fail
    refine (mirror_any l s _ _ K5.out.h.m HR.out k hkl u0 (by obtain ⟨_, e⟩ := HLK.out; exact e) (t : Int) (by omega) tb2 z z4).mono ?_
    rintro e w8 ⟨v8, rfl, ho, hb⟩
    go_wp2
    go_ret2
    refine ⟨_, rfl, ?_, next K5.out.h.below hb⟩
    rw [HCO.out]
    exact ho.lower K5.out.h.below.size
  · have tb2 : t ≤ 40000 := by omega
    go_wp2_with fail
    refine (parity_any l s _ _ K5.out.h.m HR.out k hkl u0 (by obtain ⟨_, e⟩ := HLK.out; exact e) t tb2 z z4).mono ?_
    rintro e w8 ⟨v8, rfl, ho, hb⟩
    go_wp2
    go_ret2
    refine ⟨_, rfl, ?_, next K5.out.h.below hb⟩
    rw [HCO.out]
    exact ho.lower K5.out.h.below.size
end Go.Proofs.YtlhnmcopioeboaaGreat

/- A place that came in, opened; cols.Of of any block. -/
namespace Go.Proofs.YtlhnmcopioeboaaGreat
set_option maxRecDepth 100000
open Go.RowKit

theorem open_place {H : Type} {enc : TypeId × Value → H} {W : World} {base : Nat} {v : Value} {d : DataW H} {p : List MemPlace}
    (hok : Value.okWide Tryz.prog W .any base 26 v) (h : DataW.Trod enc Tryz.prog W 0 (fun _ => true) true 26 v d p) :
    ∃ k t : Int, v = .agg #[.int .i64 k, .int .i64 t] ∧ (-9223372036854775808 ≤ k ∧ k ≤ 9223372036854775807) ∧ (-9223372036854775808 ≤ t ∧ t ≤ 9223372036854775807) := by
  have hc2 : Tryz.prog.cellsOf 26 = 2 := by kernel_rfl
  obtain ⟨cs, rfl, hsz, _⟩ : ∃ cs, v = .agg cs ∧ cs.size = Tryz.prog.cellsOf 26 ∧ Row.okWide Tryz.prog W .any base 26 cs := by
    simpa [Value.okWide, Tryz.underlying26] using hok
  rw [hc2] at hsz
  obtain ⟨ll⟩ := cs
  match ll, hsz with
  | [c0, c1], _ =>
  obtain ⟨fuel, hf⟩ := h
  obtain ⟨xs, n', _, _, _, hxl, hfld⟩ := DataW.trod_struct Tryz.underlying26 hf
  have hx : xs.length = 2 := hxl
  match xs, hx with
  | [y0, y1], _ =>
  have k3 : Tryz.prog.cellsOf 3 = 1 := by kernel_rfl
  have e0 : DataW.trod enc Tryz.prog W 0 (fun _ => true) true n' 3 (([c0, c1].drop 0).take (Tryz.prog.cellsOf 3)) = some y0 := hfld 0 _ rfl
  have e1 : DataW.trod enc Tryz.prog W 0 (fun _ => true) true n' 3 (([c0, c1].drop 1).take (Tryz.prog.cellsOf 3)) = some y1 := hfld 1 _ rfl
  rw [k3] at e0 e1
  obtain ⟨d0, hd0, _, w0⟩ := DataW.trod_int Tryz.underlying3 e0
  obtain ⟨d1, hd1, _, w1⟩ := DataW.trod_int Tryz.underlying3 e1
  simp at hd0 hd1
  subst hd0 hd1
  exact ⟨d0, d1, rfl, bounds_i64 w0, bounds_i64 w1⟩

abbrev I64 (n : Int) : Prop := -9223372036854775808 ≤ n ∧ n ≤ 9223372036854775807
/-- What Of answers of any block. -/
def OfB (l : List (Int × Int)) (s k t z : Int) (B : Nat) (w : World) (v : Value) (er : Int) : Prop :=
  (mayL l s k t z = false ∧ v = .slice none 0 0 ∧ er = 1) ∨ ∃ k' t' z' : Nat, k = k' ∧ t = t' ∧ z = z' ∧ Blk l s k' t' z' ∧ er = 0 ∧ OwnC B w v (colsOf l k' t' z')
theorem of_any (l : List (Int × Int)) (s : Int) (v : Value) (w : World) (h : Meas w v l s) (k t z : Int) (hk : I64 k) (ht : I64 t) (hz : I64 z) :
    Calls Tryz.prog 16 #[v, .agg #[.int .i64 k, .int .i64 t], .int .i64 z] w fun e w' => ∃ v' er, e = .returned (.tuple #[v', .int .i64 er]) ∧ OfB l s k t z w.heap.size w' v' er ∧ Below w.heap.size w w' := by
  cases hm : mayL l s k t z with
  | false => exact (of_bad l s v w h k t z hk ht hz hm).mono fun e w' ⟨h1, h2⟩ => ⟨_, _, h1, .inl ⟨hm, rfl, rfl⟩, h2⟩
  | true =>
    obtain ⟨k', t', z', rfl, rfl, rfl, hB⟩ := mayL_iff.1 hm
    exact (of_ok l s v w h k' t' z' hB).mono fun e w' ⟨v', h1, h2, h3⟩ => ⟨_, _, h1, .inr ⟨k', t', z', rfl, rfl, rfl, hB, rfl, h2⟩, h3⟩
end Go.Proofs.YtlhnmcopioeboaaGreat

/- Plain facts on columns and their parity (no program is named here). -/
namespace Go.Proofs.YtlhnmcopioeboaaGreat.M
set_option maxRecDepth 100000

/-- The byte at place j that columns come to. -/
def colx (l : List ByteArray) (j : Nat) : UInt8 := l.foldl (fun b s => b ^^^ s.data.toList.getD j 0) 0
/-- How long the first column is. -/
def wide (l : List ByteArray) : Nat := (l.headD ⟨#[]⟩).size
/-- Are columns even? -/
def evenL (l : List ByteArray) : Bool := l.all fun s => s.size == wide l
/-- Is there a parity? -/
def okL (l : List ByteArray) : Bool := !l.isEmpty && evenL l
/-- The bytes of a parity, n of them. -/
def parL (l : List ByteArray) (n : Nat) : List UInt8 := (List.range n).map (colx l)
/-- The parity. -/
def parB (l : List ByteArray) : ByteArray := ⟨(parL l (wide l)).toArray⟩
/-- What Make answers: the text, and the error. -/
def mkB (l : List ByteArray) : ByteArray := if okL l then parB l else ⟨#[]⟩
def mkE (l : List ByteArray) : Int := if okL l then 0 else 1
/-- Are all bytes zero? -/
def blankB (s : ByteArray) : Bool := s.data.toList.all (· == 0)

theorem sizeL (s : ByteArray) : s.size = s.data.toList.length := by rw [Array.length_toList]; rfl
theorem extL {s t : ByteArray} (h : s.data.toList = t.data.toList) : s = t := by
  apply ByteArray.ext; exact Array.ext' h

theorem foldx (l : List ByteArray) (j : Nat) : ∀ b : UInt8, l.foldl (fun b s => b ^^^ s.data.toList.getD j 0) b = b ^^^ colx l j := by
  unfold colx
  induction l with
  | nil => intro b; simp
  | cons s l ih => intro b; rw [List.foldl_cons, ih, List.foldl_cons, ih (0 ^^^ _), UInt8.zero_xor, UInt8.xor_assoc]
theorem colx_append (l m : List ByteArray) (j : Nat) : colx (l ++ m) j = colx l j ^^^ colx m j := by
  rw [colx, List.foldl_append, foldx]; rfl
theorem colx_one (s : ByteArray) (j : Nat) : colx [s] j = s.data.toList.getD j 0 := by simp [colx]
theorem colx_nil (j : Nat) : colx [] j = 0 := rfl
theorem colx_cons (s : ByteArray) (l : List ByteArray) (j : Nat) : colx (s :: l) j = s.data.toList.getD j 0 ^^^ colx l j := by
  rw [show s :: l = [s] ++ l from rfl, colx_append, colx_one]

theorem parL_length (l : List ByteArray) (n : Nat) : (parL l n).length = n := by simp [parL]
theorem parB_list (l : List ByteArray) : (parB l).data.toList = parL l (wide l) := by simp [parB]
theorem parB_size (l : List ByteArray) : (parB l).size = wide l := by rw [sizeL, parB_list, parL_length]
theorem parB_at (l : List ByteArray) (j : Nat) (h : j < wide l) : (parB l).data.toList.getD j 0 = colx l j := by
  rw [parB_list, parL, List.getD_eq_getElem?_getD, List.getElem?_map, List.getElem?_range h]; rfl
theorem parL_ext {l m : List ByteArray} {n : Nat} (h : ∀ j, j < n → colx l j = colx m j) : parL l n = parL m n := by
  apply List.map_congr_left
  intro j hj
  exact h j (List.mem_range.1 hj)
theorem parB_ext {l m : List ByteArray} (hn : wide l = wide m) (h : ∀ j, j < wide l → colx l j = colx m j) : parB l = parB m := by
  apply extL
  rw [parB_list, parB_list, ← hn]
  exact parL_ext h
/-- A parity is told by its bytes. -/
theorem parB_eq {l : List ByteArray} {s : ByteArray} (hn : s.size = wide l) (h : ∀ j, j < wide l → colx l j = s.data.toList.getD j 0) : parB l = s := by
  apply extL
  rw [parB_list]
  apply List.ext_getElem
  · rw [parL_length, ← hn, sizeL]
  · intro j h1 h2
    rw [parL_length] at h1
    have := h j h1
    rw [List.getD_eq_getElem?_getD, List.getElem?_eq_getElem h2] at this
    simp [parL, this]
/-- One column more. -/
theorem parL_more (l : List ByteArray) (s : ByteArray) : List.zipWith (· ^^^ ·) (parL l s.size) s.data.toList = parL (l ++ [s]) s.size := by
  apply List.ext_getElem
  · simp [parL_length]
  · intro j h1 h2
    rw [parL_length] at h2
    have hj : j < s.data.toList.length := by rw [← sizeL]; exact h2
    have hg : s.data.toList.getD j 0 = s.data.toList[j] := by rw [List.getD_eq_getElem?_getD, List.getElem?_eq_getElem hj]; rfl
    rw [List.getElem_zipWith]
    simp only [parL, List.getElem_map, List.getElem_range]
    rw [colx_append, colx_one, hg]
theorem parL_first (s : ByteArray) : parL [s] s.size = s.data.toList := by
  apply List.ext_getElem
  · rw [parL_length, sizeL]
  · intro j h1 h2
    simp only [parL, List.getElem_map, List.getElem_range]
    rw [colx_one, List.getD_eq_getElem?_getD, List.getElem?_eq_getElem h2]; rfl

theorem even_iff {l : List ByteArray} : evenL l = true ↔ ∀ s ∈ l, s.size = wide l := by
  simp [evenL]
theorem even_of {l : List ByteArray} {n : Nat} (h : ∀ s ∈ l, s.size = n) : evenL l = true := by
  rw [even_iff]
  intro s hs
  cases l with
  | nil => cases hs
  | cons t r =>
    rw [h s hs]
    exact (h t (List.mem_cons_self ..)).symm
theorem wide_of {l : List ByteArray} {n : Nat} (h : ∀ s ∈ l, s.size = n) (hl : l ≠ []) : wide l = n := by
  cases l with
  | nil => exact absurd rfl hl
  | cons t r => exact h t (List.mem_cons_self ..)
theorem ok_iff {l : List ByteArray} : okL l = true ↔ l ≠ [] ∧ evenL l = true := by
  cases l <;> simp [okL]
theorem ok_of {l : List ByteArray} {n : Nat} (h : ∀ s ∈ l, s.size = n) (hl : l ≠ []) : okL l = true := ok_iff.2 ⟨hl, even_of h⟩
theorem ok_size {l : List ByteArray} (h : okL l = true) : ∀ s ∈ l, s.size = wide l := even_iff.1 (ok_iff.1 h).2
theorem mk_ok {l : List ByteArray} (h : okL l = true) : mkB l = parB l ∧ mkE l = 0 := by simp [mkB, mkE, h]
theorem mk_no {l : List ByteArray} (h : okL l = false) : mkB l = ⟨#[]⟩ ∧ mkE l = 1 := by simp [mkB, mkE, h]

theorem par_small {l : List ByteArray} {N : Nat} (h : okL l = true) (hs : ∀ s ∈ l, s.size ≤ N) : (parB l).size ≤ N := by
  rw [parB_size]
  cases l with
  | nil => exact absurd rfl (ok_iff.1 h).1
  | cons s r => exact hs s (List.mem_cons_self ..)
/-- Columns, and their parity behind them. -/
theorem with_par {l : List ByteArray} (h : okL l = true) : okL (l ++ [parB l]) = true ∧ wide (l ++ [parB l]) = wide l ∧ ∀ j, j < wide l → colx (l ++ [parB l]) j = 0 := by
  have hs : ∀ s ∈ l ++ [parB l], s.size = wide l := by
    intro s hm
    rcases List.mem_append.1 hm with h1 | h1
    · exact ok_size h s h1
    · rw [List.mem_singleton.1 h1, parB_size]
  refine ⟨ok_of hs (by simp), wide_of hs (by simp), fun j hj => ?_⟩
  rw [colx_append, colx_one, parB_at l j hj, UInt8.xor_self]
theorem blank_of {l : List ByteArray} (h : ∀ j, j < wide l → colx l j = 0) : blankB (parB l) = true := by
  rw [blankB, parB_list, List.all_eq_true]
  intro b hb
  obtain ⟨j, hj, rfl⟩ := List.mem_map.1 hb
  rw [h j (List.mem_range.1 hj)]; rfl
theorem par_single (s : ByteArray) : parB [s] = s := parB_eq rfl fun j _ => colx_one s j
/-- Which is left out of columns that come to zero is what the others come to. -/
theorem colx_erase (l : List ByteArray) (k : Nat) (h : k < l.length) (j : Nat) : colx (l.eraseIdx k) j = colx l j ^^^ (l[k]).data.toList.getD j 0 := by
  induction l generalizing k with
  | nil => exact absurd h (Nat.not_lt_zero _)
  | cons s l ih =>
    cases k with
    | zero =>
      rw [List.eraseIdx_zero, List.tail_cons, colx_cons, List.getElem_cons_zero, UInt8.xor_comm (s.data.toList.getD j 0), UInt8.xor_assoc, UInt8.xor_self, UInt8.xor_zero]
    | succ k =>
      rw [List.eraseIdx_cons_succ, colx_cons, ih k (by simpa using h), colx_cons, List.getElem_cons_succ, UInt8.xor_assoc]
theorem again_par {l : List ByteArray} (h : okL l = true) (k : Nat) (hk : k < (l ++ [parB l]).length) : okL ((l ++ [parB l]).eraseIdx k) = true ∧ parB ((l ++ [parB l]).eraseIdx k) = (l ++ [parB l])[k] := by
  obtain ⟨h1, h2, h3⟩ := with_par h
  have hs := ok_size h1
  rw [h2] at hs
  have hs' : ∀ s ∈ (l ++ [parB l]).eraseIdx k, s.size = wide l := fun s hm => hs s (List.mem_of_mem_eraseIdx hm)
  have hl : (l ++ [parB l]).eraseIdx k ≠ [] := by
    intro e
    have h4 := congrArg List.length e
    have h5 : 0 < l.length := List.length_pos_iff.2 (ok_iff.1 h).1
    rw [List.length_eraseIdx_of_lt hk, List.length_append, List.length_nil] at h4
    simp only [List.length_cons, List.length_nil] at h4
    omega
  refine ⟨ok_of hs' hl, parB_eq ?_ fun j hj => ?_⟩
  · rw [wide_of hs' hl]; exact hs _ (List.getElem_mem _)
  · rw [wide_of hs' hl] at hj
    rw [colx_erase _ _ hk, h3 j hj, UInt8.zero_xor]
theorem set_erase {α : Type} (l : List α) (k : Nat) (a : α) : (l.set k a).eraseIdx k = l.eraseIdx k := by
  induction l generalizing k with
  | nil => simp
  | cons s l ih => cases k with
    | zero => simp
    | succ k => simp [ih]
/-- A column changed. -/
theorem colx_set (l : List ByteArray) (k : Nat) (h : k < l.length) (s : ByteArray) (j : Nat) : colx (l.set k s) j = colx l j ^^^ (l[k]).data.toList.getD j 0 ^^^ s.data.toList.getD j 0 := by
  have h1 := colx_erase (l.set k s) k (by simpa using h) j
  rw [set_erase, colx_erase l k h, List.getElem_set_self] at h1
  rw [h1, UInt8.xor_assoc, UInt8.xor_self, UInt8.xor_zero]
/-- Two columns changed to each other's. -/
theorem colx_swap (l : List ByteArray) (x y : Nat) (hx : x < l.length) (hy : y < l.length) (j : Nat) : colx ((l.set x l[y]).set y l[x]) j = colx l j := by
  rw [colx_set _ y (by simpa using hy), colx_set l x hx]
  by_cases e : x = y
  · subst e
    rw [List.getElem_set_self]
    simp only [UInt8.xor_assoc, UInt8.xor_self, UInt8.xor_zero]
  · rw [List.getElem_set_ne e]
    generalize (l[x]).data.toList.getD j 0 = a
    generalize (l[y]).data.toList.getD j 0 = b
    rw [UInt8.xor_assoc (colx l j ^^^ a), UInt8.xor_self, UInt8.xor_zero, UInt8.xor_assoc, UInt8.xor_self, UInt8.xor_zero]
theorem swap_mem {α : Type} (l : List α) (x y : Nat) (hx : x < l.length) (hy : y < l.length) : ∀ s ∈ (l.set x l[y]).set y l[x], s ∈ l := by
  intro s hm
  rcases List.mem_or_eq_of_mem_set hm with h1 | h1
  · rcases List.mem_or_eq_of_mem_set h1 with h2 | h2
    · exact h2
    · rw [h2]; exact List.getElem_mem _
  · rw [h1]; exact List.getElem_mem _
theorem swap_par {l : List ByteArray} (h : okL l = true) (x y : Nat) (hx : x < l.length) (hy : y < l.length) : okL ((l.set x l[y]).set y l[x]) = true ∧ parB ((l.set x l[y]).set y l[x]) = parB l := by
  have hs := ok_size h
  have hs' : ∀ s ∈ (l.set x l[y]).set y l[x], s.size = wide l := by
    intro s hm
    rcases List.mem_or_eq_of_mem_set hm with h1 | h1
    · rcases List.mem_or_eq_of_mem_set h1 with h2 | h2
      · exact hs s h2
      · rw [h2]; exact hs _ (List.getElem_mem _)
    · rw [h1]; exact hs _ (List.getElem_mem _)
  have hl : (l.set x l[y]).set y l[x] ≠ [] := by
    intro e
    have := congrArg List.length e
    simp at this
    exact (ok_iff.1 h).1 this
  refine ⟨ok_of hs' hl, parB_ext (wide_of hs' hl) fun j _ => colx_swap l x y hx hy j⟩
theorem twice_par {l : List ByteArray} (h : okL l = true) : okL (l ++ l) = true ∧ blankB (parB (l ++ l)) = true ∧ (parB (l ++ l)).size = (parB l).size := by
  have hs := ok_size h
  have hs' : ∀ s ∈ l ++ l, s.size = wide l := fun s hm => by rcases List.mem_append.1 hm with h1 | h1 <;> exact hs s h1
  have hl : l ++ l ≠ [] := by simpa using (ok_iff.1 h).1
  refine ⟨ok_of hs' hl, blank_of fun j _ => by rw [colx_append, UInt8.xor_self], ?_⟩
  rw [parB_size, parB_size, wide_of hs' hl]
/-- n zero bytes. -/
def zeroB (n : Nat) : ByteArray := ⟨(List.replicate n (0 : UInt8)).toArray⟩
theorem sums_par {l m : List ByteArray} (hl : l ≠ []) (hm : m ≠ []) (h : okL (l ++ m) = true) :
    okL l = true ∧ okL m = true ∧ okL [parB l, parB m] = true ∧ parB [parB l, parB m] = parB (l ++ m) ∧ okL (l ++ m ++ [zeroB (parB (l ++ m)).size]) = true ∧ parB (l ++ m ++ [zeroB (parB (l ++ m)).size]) = parB (l ++ m) := by
  have hs := ok_size h
  generalize hn : wide (l ++ m) = n at hs
  have hsl : ∀ s ∈ l, s.size = n := fun s hm => hs s (List.mem_append_left _ hm)
  have hsm : ∀ s ∈ m, s.size = n := fun s hm => hs s (List.mem_append_right _ hm)
  have hwl := wide_of hsl hl
  have hwm := wide_of hsm hm
  have hsp : ∀ s ∈ [parB l, parB m], s.size = n := by
    intro s hm
    simp only [List.mem_cons, List.not_mem_nil, or_false] at hm
    rcases hm with rfl | rfl
    · rw [parB_size, hwl]
    · rw [parB_size, hwm]
  have hz : (zeroB (parB (l ++ m)).size).size = n := by
    rw [sizeL]; simp [zeroB, parB_size, hn]
  have hsz : ∀ s ∈ l ++ m ++ [zeroB (parB (l ++ m)).size], s.size = n := by
    intro s hm
    rcases List.mem_append.1 hm with h1 | h1
    · exact hs s h1
    · rw [List.mem_singleton.1 h1, hz]
  have hwp := wide_of hsp (by simp)
  have hwz := wide_of hsz (by simp)
  refine ⟨ok_of hsl hl, ok_of hsm hm, ok_of hsp (by simp), parB_ext (by rw [hwp, hn]) fun j hj => ?_, ok_of hsz (by simp), parB_ext (by rw [hwz, hn]) fun j hj => ?_⟩
  · rw [hwp] at hj
    rw [show [parB l, parB m] = [parB l] ++ [parB m] from rfl, colx_append, colx_one, colx_one, parB_at l j (by rw [hwl]; exact hj), parB_at m j (by rw [hwm]; exact hj), colx_append]
  · rw [colx_append (l ++ m), colx_one]
    have : (zeroB (parB (l ++ m)).size).data.toList.getD j 0 = 0 := by
      simp [zeroB, List.getD_eq_getElem?_getD, List.getElem?_replicate]
      split <;> rfl
    rw [this, UInt8.xor_zero]
end Go.Proofs.YtlhnmcopioeboaaGreat.M

/- Texts in memory: a slice of them that came in, or that is one's own; a row of bytes. -/
namespace Go.Proofs.YtlhnmcopioeboaaGreat
set_option maxRecDepth 100000
open Go.RowKit M

theorem early2 {w w1 w2 : World} (b1 : Below w.heap.size w w1) (b2 : Below w1.heap.size w1 w2) : Below w.heap.size w w2 := b1.trans (b2.mono b1.size)

/-- The slice value v is the texts l. -/
def Txt (w : World) (v : Value) (l : List ByteArray) : Prop :=
  ∃ a c, v = .slice a l.length c ∧ l.length ≤ c ∧ ∀ j (h : j < l.length), ∃ g o, a = some ⟨g, o, none⟩ ∧ g < w.heap.size ∧ w.cell? ⟨g, o + j, none⟩ = some (.string l[j])

theorem Txt.below {w w' : World} {v : Value} {l : List ByteArray} (h : Txt w v l) (hb : Below w.heap.size w w') : Txt w' v l := by
  obtain ⟨a, c, rfl, hc, hj⟩ := h
  refine ⟨a, c, rfl, hc, fun j h => ?_⟩
  obtain ⟨g, o, ha, hg, hcell⟩ := hj j h
  exact ⟨g, o, ha, Nat.lt_of_lt_of_le hg hb.size, by rw [hb.cell (p := ⟨g, o + j, none⟩) hg]; exact hcell⟩
theorem Txt.drew {w : World} {v : Value} {l : List ByteArray} (h : Txt w v l) : Txt w.drew v l := h.below (Below.refl _ _).drew
theorem Txt.isNone {w : World} {v : Value} (h : Txt w v []) : ∃ a c, v = .slice a 0 c := by
  obtain ⟨a, c, rfl, _⟩ := h
  exact ⟨a, c, rfl⟩
theorem Txt.isSome {w : World} {v : Value} {l : List ByteArray} (h : Txt w v l) (hl : 0 < l.length) :
    ∃ g o c, v = .slice (some ⟨g, o, none⟩) l.length c ∧ l.length ≤ c ∧ g < w.heap.size ∧ ∀ j (h : j < l.length), w.cell? ⟨g, o + j, none⟩ = some (.string l[j]) := by
  obtain ⟨a, c, rfl, hc, hj⟩ := h
  obtain ⟨g, o, rfl, hg, _⟩ := hj 0 hl
  refine ⟨g, o, c, rfl, hc, hg, fun j h => ?_⟩
  obtain ⟨g', o', ha, _, hcell⟩ := hj j h
  simp only [Option.some.injEq, Addr.mk.injEq, and_true] at ha
  obtain ⟨rfl, rfl⟩ := ha
  exact hcell
theorem Txt.mk {w : World} {g o c : Nat} {l : List ByteArray} (hc : l.length ≤ c) (hg : g < w.heap.size) (h : ∀ j (h : j < l.length), w.cell? ⟨g, o + j, none⟩ = some (.string l[j])) :
    Txt w (.slice (some ⟨g, o, none⟩) l.length c) l := ⟨_, c, rfl, hc, fun j hj => ⟨g, o, rfl, hg, h j hj⟩⟩

/-- A slice of texts that came in. -/
theorem open_txt {H : Type} {enc : TypeId × Value → H} {W : World} {a : Option Addr} {len cap : Nat} {d : DataW H} {ps : List MemPlace}
    (h : DataW.Trod enc Tryz.prog W 0 (fun _ => true) true 37 (.slice a len cap) d ps) :
    ∃ l : List ByteArray, Txt W (.slice a len cap) l ∧ len ≤ maxLen ∧ ∀ s ∈ l, s.size ≤ maxLen := by
  obtain ⟨fuel, hf⟩ := h
  rcases Go.ChangeShapes.open_strings Tryz.underlying37 Tryz.underlying9 (by kernel_rfl) hf with ⟨hcs, _⟩ | ⟨x, l, c, ss, hcs, _, hl, hm, hz, _, hcell, hws⟩
  · simp [Value.cells] at hcs
    obtain ⟨rfl, rfl, rfl⟩ := hcs
    exact ⟨[], ⟨_, _, rfl, Nat.le_refl _, fun j h => absurd h (Nat.not_lt_zero _)⟩, Nat.zero_le _, fun s hs => by cases hs⟩
  · simp [Value.cells] at hcs
    obtain ⟨rfl, rfl, rfl⟩ := hcs
    have hz' : ss.length = cap := by simpa using hz
    have htl : (ss.take len).length = len := by rw [List.length_take]; omega
    refine ⟨ss.take len, ⟨some x, cap, by rw [htl], by rw [htl]; exact hl, fun j h => ?_⟩, Nat.le_trans hl hm, fun s hs => hws s (List.mem_of_mem_take hs)⟩
    rw [htl] at h
    have hsp : x.spot = none := by
      have h0 := hcell 0 (by omega)
      have := World.cell?_spot h0
      rw [Addr.add] at this
      split at this <;> simp_all
    obtain ⟨b, off, spot⟩ := x
    simp only at hsp
    subst hsp
    have hj := hcell j (by omega)
    rw [Go.WideShapes.add_plain] at hj
    refine ⟨b, off, rfl, World.block_lt_of_cell? W _ hj, ?_⟩
    rw [hj, List.getElem_take, List.getD_eq_getElem?_getD, List.getElem?_eq_getElem (by omega)]
    rfl

/-- The slice v is the call's own, from block B on, and it is the texts l. -/
def Own (w : World) (B : Nat) (v : Value) (l : List ByteArray) : Prop := w.ownsRow B 9 1 v l.length (l.map Value.string)

theorem Own.below {w w' : World} {B : Nat} {v : Value} {l : List ByteArray} (h : Own w B v l) (hb : Below w.heap.size w w') : Own w' B v l := by
  refine ⟨h.1, ?_⟩
  rcases h.2 with hn | ⟨g, cap, cur, rfl, hB, hg, rest⟩
  · exact .inl hn
  · exact .inr ⟨g, cap, cur, rfl, hB, by rw [hb.block g (Array.getElem?_eq_some_iff.1 hg).1]; exact hg, rest⟩
theorem Own.txt {w : World} {B : Nat} {v : Value} {l : List ByteArray} (h : Own w B v l) : Txt w v l := by
  have hcells := fun g hg => h.cells (g := g) hg
  rcases h.2 with ⟨rfl, hn⟩ | ⟨g, cap, cur, rfl, _, hg, hnc, _⟩
  · have : l = [] := List.eq_nil_of_length_eq_zero hn
    subst this
    exact ⟨_, _, rfl, Nat.le_refl _, fun j h => absurd h (Nat.not_lt_zero _)⟩
  · refine ⟨_, cap, rfl, hnc, fun j hj => ⟨g, 0, rfl, (Array.getElem?_eq_some_iff.1 hg).1, ?_⟩⟩
    have := hcells g rfl j (.string l[j]) (by rw [List.getElem?_map, List.getElem?_eq_getElem hj]; rfl)
    rw [Go.WideShapes.add_plain] at this
    exact this
/-- A literal of texts. -/
theorem own_lit (w : World) (B : Nat) (l : List ByteArray) (hB : B ≤ w.heap.size) (hl : l.length ≤ maxLen) :
    Own (w.alloc (.cells (l.map Value.string).toArray 9)) B (.slice (some ⟨w.heap.size, 0, none⟩) l.length l.length) l := by
  have := World.ownsRow_lit (base := B) (e := 9) (size := 1) w (l.map Value.string).toArray l.length hB hl (by simp)
  simpa [Own] using this

theorem own_none (w : World) (B : Nat) (hB : B ≤ w.heap.size) : Own (w.alloc (.cells #[] 9)) B (.slice (some ⟨w.heap.size, 0, none⟩) 0 0) [] := own_lit w B [] hB (by decide)
theorem own_one (w : World) (B : Nat) (p : ByteArray) (hB : B ≤ w.heap.size) : Own (w.alloc (.cells #[.string p] 9)) B (.slice (some ⟨w.heap.size, 0, none⟩) 1 1) [p] := own_lit w B [p] hB (by show 1 ≤ maxLen; decide)
theorem txt_one (w : World) (p : ByteArray) : Txt (w.alloc (.cells #[.string p] 9)) (.slice (some ⟨w.heap.size, 0, none⟩) 1 1) [p] := (own_one w 0 p (Nat.zero_le _)).txt
theorem txt_two (w : World) (p q : ByteArray) : Txt (w.alloc (.cells #[.string p, .string q] 9)) (.slice (some ⟨w.heap.size, 0, none⟩) 2 2) [p, q] := (own_lit w 0 [p, q] (Nat.zero_le _) (by show 2 ≤ maxLen; decide)).txt
theorem Txt.len {w : World} {a : Option Addr} {n c : Nat} {l : List ByteArray} (h : Txt w (.slice a n c) l) : l.length = n := by
  obtain ⟨a', c', e, _⟩ := h
  simp only [Value.slice.injEq] at e
  exact e.2.1.symm
theorem Own.alloc {w : World} {B : Nat} {v : Value} {l : List ByteArray} (h : Own w B v l) (o : Obj) : Own (w.alloc o) B v l := h.below ((Below.refl _ w).alloc (Nat.le_refl _) _)
theorem Txt.alloc {w : World} {v : Value} {l : List ByteArray} (h : Txt w v l) (o : Obj) : Txt (w.alloc o) v l := h.below ((Below.refl _ w).alloc (Nat.le_refl _) _)

theorem info_str : ∃ i, Tryz.prog.info? 9 = some i ∧ i.zero = some (.string ⟨#[]⟩) ∧ i.size = 1 ∧ i.bytes = 16 := info_parts (by kernel_rfl)

/-- append(v, x..): texts behind texts. -/
theorem app_txt (w : World) (B : Nat) (v x : Value) (l m : List ByteArray) (hv : Own w B v l) (hx : Txt w x m) (hB : B ≤ w.heap.size) (hn : l.length + m.length ≤ 4294967296) (ty : TypeId) :
    ∃ a c w', (Builtin.append_ #[37, 37] ty #[v, x]).run Tryz.prog w = .ok (.slice a (l.length + m.length) c) w' ∧ Own w' B (.slice a (l.length + m.length) c) (l ++ m) ∧ Below B w w' := by
  obtain ⟨i, hi, hz, hs, hb⟩ := info_str
  by_cases hm : 0 < m.length
  · obtain ⟨g, o, c, rfl, hc, hg, hcell⟩ := hx.isSome hm
    obtain ⟨v', w', h1, h2, h3, _⟩ := run_append_own (P := Tryz.prog) w B 37 ty 9 i (.string ⟨#[]⟩) 1 16 Tryz.underlying37 hi hz hs hb rfl (by decide) v l.length (l.map Value.string) hv
      ⟨g, o, none⟩ m.length c (m.map Value.string) (by simp) (fun j u hu => by
        rw [List.getElem?_map] at hu
        by_cases hj : j < m.length
        · rw [List.getElem?_eq_getElem hj] at hu
          rw [Go.WideShapes.add_plain, hcell j hj]
          exact hu
        · rw [List.getElem?_eq_none (by omega)] at hu; cases hu) (fun u hu => by obtain ⟨s, _, rfl⟩ := List.mem_map.1 hu; rfl) (by unfold maxLen; omega) (by omega) hB
    have hO : Own w' B v' (l ++ m) := by rw [Own, List.length_append, List.map_append]; exact h2
    have hbel : Below B w w' := (Below.refl B w).grown h3 hB (fun k hk => (hv.lt k hk).1)
    rcases h2.2 with ⟨rfl, h0⟩ | ⟨g', c', cur, rfl, _⟩
    · omega
    · refine ⟨.some ⟨g', 0, .none⟩, c', w', ?_, ?_, hbel⟩
      · exact h1
      · exact hO
  · have h0 : m = [] := List.eq_nil_of_length_eq_zero (by omega)
    subst h0
    obtain ⟨a, c, rfl⟩ := hx.isNone
    have hO : Own w B v (l ++ []) := by rw [List.append_nil]; exact hv
    rcases hv.2 with ⟨rfl, h0⟩ | ⟨g, cap, cur, rfl, _, _, hnc, _⟩
    · refine ⟨.none, 0, w, ?_, by simpa [h0] using hO, Below.refl _ _⟩
      cases a <;> simp [Builtin.append_, run_underlying Tryz.underlying37, sizeOf, typeInfo, hi, Builtin.lenOf, Builtin.firstCells, loadCells, loadCellsFrom, h0]
    · refine ⟨_, cap, w, ?_, by simpa using hO, Below.refl _ _⟩
      cases a <;> simp [Builtin.append_, run_underlying Tryz.underlying37, sizeOf, typeInfo, hi, Builtin.lenOf, Builtin.firstCells, loadCells, loadCellsFrom, hnc, storeCells]

/-- The same, for the walk. -/
theorem wpList_append_txt {ops : Array Oper} {rest : List Oper} {o : Oper} {a : Act} {Q : Exit → Act → World → Prop} (w : World) (hgd : o.guard = none) (s x : Operand)
    (ho : o.op = .call { callee := .builtin .append, args := #[s, x], argTypes := #[37, 37] }) (B : Nat) (v xv : Value) (l m k : List ByteArray) (n : Nat) (hs : a.eval s = v) (hx : a.eval x = xv)
    (hk : l ++ m = k) (hn : k.length = n) (hv : Own w B v l) (hxt : Txt w xv m) (hB : B ≤ w.heap.size) (hN : n ≤ 4294967296)
    (h : ∀ b c w', Own w' B (.slice b n c) k → Below B w w' → w.heap.size ≤ w'.heap.size → wpList Tryz.prog ops Q rest (a.put o.dst (.slice b n c)) w') : wpList Tryz.prog ops Q (o :: rest) a w := by
  subst hk
  rw [List.length_append] at hn
  subst hn
  obtain ⟨b, c, w', h1, h2, h3⟩ := app_txt w B v xv l m hv hxt hB hN o.type
  exact Lib.wpList_append_run w hgd s x _ _ ho v xv hs hx _ _ h1 (h b c w' h2 h3 h3.size)

/-- Block g begins with the bytes l, and they may be written. -/
structure RowB (w : World) (g : Nat) (l : List UInt8) : Prop where
  c : ∀ j (h : j < l.length), w.cell? ⟨g, j, none⟩ = some (.int .u8 (l[j].toNat : Int))
  f : ∀ j, j < l.length → w.frozen? ⟨g, j, none⟩ = false
  lt : g < w.heap.size
theorem RowB.below {w w' : World} {g B : Nat} {l : List UInt8} (h : RowB w g l) (hb : Below B w w') (hB : g < B) : RowB w' g l :=
  ⟨fun j hj => by rw [hb.cell (p := ⟨g, j, none⟩) hB]; exact h.c j hj, fun j hj => by rw [hb.frozen (p := ⟨g, j, none⟩) hB]; exact h.f j hj, Nat.lt_of_lt_of_le h.lt hb.size⟩
/-- The world behind []byte(p). -/
def bytesW (w : World) (p : ByteArray) : World :=
  w.drew.alloc (.cells (bytesRow p (grownCap w p.size 0 5)) 5 ((bytesRow p (grownCap w p.size 0 5)).size, (bytesRow p (grownCap w p.size 0 5)).size + 1))
theorem conv_to (w : World) (p : ByteArray) : (convert 9 53 (.string p)).run Tryz.prog w = .ok (.slice (some ⟨w.heap.size, 0, none⟩) p.size (grownCap w p.size 0 5)) (bytesW w p) :=
  run_bytes_of_string w 9 53 5 p Tryz.underlying9 Tryz.underlying53 Tryz.underlying5
theorem bytesW_below (w : World) (p : ByteArray) : Below w.heap.size w (bytesW w p) := ((Below.refl _ w).drew).alloc (Nat.le_refl _) _
theorem bytesW_row (w : World) (p : ByteArray) : RowB (bytesW w p) w.heap.size p.data.toList := by
  have hh : (bytesW w p).heap[w.heap.size]? = some (.cells (bytesRow p (grownCap w p.size 0 5)) 5 ((bytesRow p (grownCap w p.size 0 5)).size, (bytesRow p (grownCap w p.size 0 5)).size + 1)) := heap_alloc_new w.drew _
  have hz : p.data.toList.length ≤ (bytesRow p (grownCap w p.size 0 5)).size := by
    simp [bytesRow]
  refine ⟨fun j hj => ?_, fun j hj => ?_, by show w.heap.size < _; simp [bytesW]⟩
  · have hj2 : j < p.data.size := by simpa using hj
    have hb : (bytesRow p (grownCap w p.size 0 5))[j]? = some (.int .u8 (p.data[j].toNat : Int)) := by
      rw [bytesRow, Array.getElem?_append_left (by simpa using hj2), Array.getElem?_map, Array.getElem?_eq_getElem hj2]
      rfl
    simp [World.cell?, hh, hb]
  · simp [World.frozen?, hh]
    omega
/-- string(b). -/
theorem conv_from (w : World) (g : Nat) (l : List UInt8) (h : RowB w g l) (n cap : Nat) (hn : n = l.length) :
    (convert 53 9 (.slice (some ⟨g, 0, none⟩) n cap)).run Tryz.prog w = .ok (.string ⟨l.toArray⟩) w := by
  subst hn
  exact run_convert_bytes_back (P := Tryz.prog) w 53 9 5 ⟨g, 0, none⟩ cap l Tryz.underlying53 Tryz.underlying5 Tryz.underlying9 (fun j hj => by
    rw [show Addr.add ⟨g, 0, none⟩ j = ⟨g, j, none⟩ by unfold Addr.add; split <;> simp_all]
    rw [h.c j hj])
theorem RowB.set {w : World} {g : Nat} {l : List UInt8} (h : RowB w g l) (j : Nat) (hj : j < l.length) (b : UInt8) : RowB (w.setCell ⟨g, j, none⟩ (.int .u8 (b.toNat : Int))) g (l.set j b) := by
  refine ⟨fun k hk => ?_, fun k hk => ?_, by simp [World.setCell]; exact h.lt⟩
  · rw [List.length_set] at hk
    by_cases e : j = k
    · subst e
      rw [World.cell?_setCell_same _ _ _ (h.c j hj)]
      simp
    · rw [World.cell?_setCell_other _ _ _ _ (by intro h; apply e; cases h; rfl), h.c k hk, List.getElem_set_ne e]
  · rw [List.length_set] at hk
    rw [World.frozen?_setCell]; exact h.f k hk
end Go.Proofs.YtlhnmcopioeboaaGreat

/- A pool's devices in memory: what is kept while some of their blocks turn; a set of numbers. -/
namespace Go.Proofs.YtlhnmcopioeboaaGreat
set_option maxRecDepth 100000
open Go.RowKit Go.Maps

theorem Turn.cell {fp : Nat → Prop} {w w' : World} (h : Turn fp w w') {b o : Nat} (hk : b < w.heap.size) (hn : ¬ fp b) : w'.cell? ⟨b, o, none⟩ = w.cell? ⟨b, o, none⟩ := World.cell?_of_block (w := w) (h.block b hk hn)
theorem frozen_of_block {w w' : World} {b o : Nat} (h : w'.heap[b]? = w.heap[b]?) : w'.frozen? ⟨b, o, none⟩ = w.frozen? ⟨b, o, none⟩ := by
  unfold World.frozen?
  rw [h]
theorem Turn.mono {fp fp' : Nat → Prop} {w w' : World} (h : Turn fp w w') (hf : ∀ k, fp k → fp' k) : Turn fp' w w' := ⟨h.os, h.tape, h.output, h.size, fun k hk hn => h.block k hk fun e => hn (hf k e)⟩

/-- P stands, whatever becomes of the blocks of which fp holds. -/
def Keep (fp : Nat → Prop) (w : World) (P : World → Prop) : Prop := ∀ w', Turn fp w w' → P w'
theorem Keep.out {fp : Nat → Prop} {w : World} {P : World → Prop} (h : Keep fp w P) : P w := h w (Turn.refl _ _)
theorem Keep.turn {fp fp1 : Nat → Prop} {w w1 : World} {P : World → Prop} (h : Keep fp w P) (t : Turn fp w w1) (hf : ∀ k, fp1 k → fp k ∨ w.heap.size ≤ k) : Keep fp1 w1 P := fun w2 t2 => h w2 (t.trans t2 hf)
theorem Keep.sub {fp fp1 : Nat → Prop} {w : World} {P : World → Prop} (h : Keep fp w P) (hf : ∀ k, fp1 k → fp k) : Keep fp1 w P := fun w' t => h w' (t.mono hf)
theorem Keep.and {fp : Nat → Prop} {w : World} {P Q : World → Prop} (h : Keep fp w P) (k : Keep fp w Q) : Keep fp w (fun w => P w ∧ Q w) := fun w' t => ⟨h w' t, k w' t⟩
theorem Keep.mono {fp : Nat → Prop} {w : World} {P Q : World → Prop} (h : Keep fp w P) (k : ∀ w, P w → Q w) : Keep fp w Q := fun w' t => k w' (h w' t)
/-- Q hangs on the blocks from B on. -/
def New (B : Nat) (w : World) (Q : World → Prop) : Prop := ∀ w', w.heap.size ≤ w'.heap.size → (∀ k, B ≤ k → k < w.heap.size → w'.heap[k]? = w.heap[k]?) → Q w'
theorem New.keep {fp : Nat → Prop} {B : Nat} {w : World} {Q : World → Prop} (h : New B w Q) (hf : ∀ k, fp k → k < B) : Keep fp w Q := fun w' t => h w' t.size fun k hB hk => t.block k hk fun e => by have := hf k e; omega
theorem New.out {B : Nat} {w : World} {Q : World → Prop} (h : New B w Q) : Q w := h w (Nat.le_refl _) fun _ _ _ => rfl
theorem New.and {B : Nat} {w : World} {P Q : World → Prop} (h : New B w P) (k : New B w Q) : New B w (fun w => P w ∧ Q w) := fun w' a b => ⟨h w' a b, k w' a b⟩
theorem New.mono {B : Nat} {w : World} {P Q : World → Prop} (h : New B w P) (k : ∀ w, P w → Q w) : New B w Q := fun w' a b => k w' (h w' a b)
theorem New.lower {B B' : Nat} {w : World} {P : World → Prop} (h : New B w P) (hB : B' ≤ B) : New B' w P := fun w' a b => h w' a fun k hk => b k (by omega)
theorem New.next {B : Nat} {w w1 : World} {P : World → Prop} (h : New B w P) (hb : Below w.heap.size w w1) : New B w1 P := fun w' a b => h w' (Nat.le_trans hb.size a) fun k hB hk => (b k hB (Nat.lt_of_lt_of_le hk hb.size)).trans (hb.block k hk)
theorem New.cell {B b o : Nat} {w : World} {v : Value} (h : w.cell? ⟨b, o, none⟩ = some v) (hB : B ≤ b) : New B w (fun w => w.cell? ⟨b, o, none⟩ = some v) := fun w' _ hb => by
  show w'.cell? _ = _
  rw [World.cell?_of_block (w := w) (hb b hB (World.block_lt_of_cell? w _ h))]
  exact h
theorem New.txt {B : Nat} {w : World} {v : Value} {l : List ByteArray} (h : Own w B v l) : New B w (fun w => Own w B v l) := fun w' _ hb => by
  refine ⟨h.1, ?_⟩
  rcases h.2 with hn | ⟨g, cap, cur, rfl, hB, hg, rest⟩
  · exact .inl hn
  · exact .inr ⟨g, cap, cur, rfl, hB, by rw [hb g hB (Array.getElem?_eq_some_iff.1 hg).1]; exact hg, rest⟩
theorem New.cols {B : Nat} {w : World} {v : Value} {l : List C} (h : OwnC B w v l) : New B w (fun w => OwnC B w v l) := fun w' _ hb => by
  refine ⟨h.1, ?_⟩
  rcases h.2 with hn | ⟨g, cap, cur, rfl, hB, hg, rest⟩
  · exact .inl hn
  · exact .inr ⟨g, cap, cur, rfl, hB, by rw [hb g hB (Array.getElem?_eq_some_iff.1 hg).1]; exact hg, rest⟩

/-- A row of values of one cell each. -/
structure RowV (w : World) (g n : Nat) (f : Nat → Value) : Prop where
  c : ∀ i, i < n → w.cell? ⟨g, i, none⟩ = some (f i)
  fz : ∀ i, i < n → w.frozen? ⟨g, i, none⟩ = false
def upd {α : Type} (f : Nat → α) (i : Nat) (v : α) (j : Nat) : α := if j = i then v else f j
theorem upd_same {α : Type} (f : Nat → α) (i : Nat) (v : α) : upd f i v i = v := by simp [upd]
theorem upd_other {α : Type} (f : Nat → α) {i j : Nat} (v : α) (h : j ≠ i) : upd f i v j = f j := by simp [upd, h]
theorem upd_self {α : Type} (f : Nat → α) (i : Nat) : upd f i (f i) = f := by
  funext j
  unfold upd
  split
  · subst j; rfl
  · rfl
theorem RowV.same {w w' : World} {g n : Nat} {f : Nat → Value} (h : RowV w g n f) (hb : w'.heap[g]? = w.heap[g]?) : RowV w' g n f :=
  ⟨fun i hi => by rw [World.cell?_of_block (w := w) hb]; exact h.c i hi, fun i hi => by rw [frozen_of_block hb]; exact h.fz i hi⟩
theorem RowV.set {w : World} {g n : Nat} {f : Nat → Value} (h : RowV w g n f) (j : Nat) (hj : j < n) (v : Value) : RowV (w.setCell ⟨g, j, none⟩ v) g n (upd f j v) := by
  refine ⟨fun k hk => ?_, fun k hk => by rw [World.frozen?_setCell]; exact h.fz k hk⟩
  by_cases e : k = j
  · subst e
    rw [World.cell?_setCell_same _ _ _ (h.c k hj), upd_same]
  · rw [World.cell?_setCell_other _ _ _ _ (by intro h; apply e; cases h; rfl), h.c k hk, upd_other _ _ e]
theorem RowV.congr {w : World} {g n : Nat} {f f' : Nat → Value} (h : RowV w g n f) (e : ∀ i, i < n → f i = f' i) : RowV w g n f' := ⟨fun i hi => by rw [← e i hi]; exact h.c i hi, h.fz⟩
theorem RowV.lt {w : World} {g n : Nat} {f : Nat → Value} (h : RowV w g n f) (hn : 0 < n) : g < w.heap.size := World.block_lt_of_cell? w _ (h.c 0 hn)

/-- A pool's devices, as a value. -/
structure Px where
  ga : Option Addr
  gn : Nat
  gc : Nat
  sc : Int
  lb : Nat
  n : Nat
  ab : Nat
def Px.g (x : Px) : Value := .agg #[.slice x.ga x.gn x.gc, .int .i64 x.sc]
def Px.val (x : Px) : Value := .agg #[.slice x.ga x.gn x.gc, .int .i64 x.sc, .slice (some ⟨x.lb, 0, none⟩) x.n x.n, .slice (some ⟨x.ab, 0, none⟩) x.n x.n]
/-- A device without a fuse, of so many sectors. -/
structure DGood (sc : Int) (K : Nat) (S : Dv) : Prop where
  fused : S.fused = false
  len : (S.med.length : Int) = sc
  cnt : S.cnt ≤ K
theorem DGood.mono {sc : Int} {K K' : Nat} {S : Dv} (h : DGood sc K S) (hk : K ≤ K') : DGood sc K' S := ⟨h.fused, h.len, Nat.le_trans h.cnt hk⟩

structure StF (m : Nat) (X : Nat → Prop) (B : Nat) (w : World) (x : Px) (l : List (Int × Int)) (ds : Nat → Dv) (aw : Nat → Bool) (K : Nat) (P : World → Prop) (fp : Nat → Prop) (F : Nat → Nat → Prop) (bs : Nat → Nat) : Prop where
  ptr : RowV w x.lb m (fun i => .pointer (some ⟨bs i, 0, none⟩))
  awy : RowV w x.ab x.n (fun i => .bool (aw i))
  dev : ∀ i, i < m → DevAt w (bs i) (ds i) (F i)
  good : ∀ i, i < m → DGood x.sc K (ds i)
  apart : ∀ i j k, i < m → j < m → F i k → F j k → i = j
  lbF : ∀ i, i < m → ¬ F i x.lb
  abF : ∀ i, i < m → ¬ F i x.ab
  lbab : x.lb ≠ x.ab
  fpF : ∀ i k, i < m → F i k → fp k
  fpl : fp x.lb
  fpa : fp x.ab
  lt : ∀ k, fp k → k < w.heap.size
  ge : ∀ k, fp k → B ≤ k
  xfp : ∀ k, X k → fp k
  xF : ∀ i k, i < m → X k → ¬ F i k
  xl : ¬ X x.lb
  xa : ¬ X x.ab
  keep : Keep (fun k => fp k ∨ k < B) w (fun w => Meas w x.g l x.sc ∧ P w)
/-- The first m devices ds of a pool, of which aw are away, lie in x, all from block B on; P stands beside them; the blocks X are none of theirs. -/
def StG (m : Nat) (X : Nat → Prop) (B : Nat) (w : World) (x : Px) (l : List (Int × Int)) (ds : Nat → Dv) (aw : Nat → Bool) (K : Nat) (P : World → Prop) : Prop := ∃ fp F bs, StF m X B w x l ds aw K P fp F bs
/-- All devices of a right measure. -/
def StX (X : Nat → Prop) (B : Nat) (w : World) (x : Px) (l : List (Int × Int)) (ds : Nat → Dv) (aw : Nat → Bool) (K : Nat) (P : World → Prop) : Prop := RightM l x.sc ∧ devsL l x.sc = (x.n : Int) ∧ StG x.n X B w x l ds aw K P
abbrev None8 : Nat → Prop := fun _ => False
abbrev St (B : Nat) (w : World) (x : Px) (l : List (Int × Int)) (ds : Nat → Dv) (aw : Nat → Bool) (K : Nat) (P : World → Prop) : Prop := StX None8 B w x l ds aw K P

section
variable {m : Nat} {X : Nat → Prop} {B : Nat} {w w' : World} {x : Px} {l : List (Int × Int)} {ds : Nat → Dv} {aw : Nat → Bool} {K : Nat} {P Q : World → Prop}
theorem StG.meas (h : StG m X B w x l ds aw K P) : Meas w x.g l x.sc := by
  obtain ⟨_, _, _, h⟩ := h
  exact h.keep.out.1
theorem StG.out (h : StG m X B w x l ds aw K P) : P w := by
  obtain ⟨_, _, _, h⟩ := h
  exact h.keep.out.2
theorem StG.good (h : StG m X B w x l ds aw K P) {i : Nat} (hi : i < m) : DGood x.sc K (ds i) := by
  obtain ⟨_, _, _, h⟩ := h
  exact h.good i hi
theorem StG.mono (h : StG m X B w x l ds aw K P) (k : ∀ w, P w → Q w) : StG m X B w x l ds aw K Q := by
  obtain ⟨fp, F, bs, h⟩ := h
  exact ⟨fp, F, bs, { h with keep := h.keep.mono fun w hp => ⟨hp.1, k w hp.2⟩ }⟩
theorem StG.sub (h : StG m X B w x l ds aw K P) {X' : Nat → Prop} (k : ∀ i, X' i → X i) : StG m X' B w x l ds aw K P := by
  obtain ⟨fp, F, bs, h⟩ := h
  exact ⟨fp, F, bs, { h with xfp := fun i hi => h.xfp i (k i hi), xF := fun i j hi hj => h.xF i j hi (k j hj), xl := fun e => h.xl (k _ e), xa := fun e => h.xa (k _ e) }⟩
theorem StG.more (h : StG m X B w x l ds aw K P) {K' : Nat} (hk : K ≤ K') : StG m X B w x l ds aw K' P := by
  obtain ⟨fp, F, bs, h⟩ := h
  exact ⟨fp, F, bs, { h with good := fun i hi => (h.good i hi).mono hk }⟩
theorem StG.lower (h : StG m X B w x l ds aw K P) {B' : Nat} (hB : B' ≤ B) : StG m X B' w x l ds aw K P := by
  obtain ⟨fp, F, bs, h⟩ := h
  exact ⟨fp, F, bs, { h with ge := fun i hi => Nat.le_trans hB (h.ge i hi), keep := h.keep.sub fun k hk => hk.imp id fun e => by omega }⟩
/-- Blocks that are none of the devices' have turned: those of X, and new ones, which may be of X from now on. -/
theorem StG.turnX (h : StG m X B w x l ds aw K P) {X' : Nat → Prop} (t : Turn X w w') (hX : ∀ k, X' k → X k ∨ w.heap.size ≤ k) (hlt : ∀ k, X' k → k < w'.heap.size) (hB : B ≤ w.heap.size) : StG m X' B w' x l ds aw K P := by
  obtain ⟨fp, F, bs, h⟩ := h
  have hF : ∀ i k, i < m → F i k → w'.heap[k]? = w.heap[k]? := fun i k hi hk => t.block k (h.lt k (h.fpF i k hi hk)) fun e => h.xF i k hi e hk
  refine ⟨fun k => fp k ∨ X' k, F, bs, ⟨h.ptr.same (t.block _ (h.lt _ h.fpl) h.xl), h.awy.same (t.block _ (h.lt _ h.fpa) h.xa), fun i hi => (h.dev i hi).same t.size fun k hk => hF i k hi hk, h.good, h.apart, h.lbF, h.abF, h.lbab,
    fun i k hi hk => .inl (h.fpF i k hi hk), .inl h.fpl, .inl h.fpa, fun k hk => ?_, fun k hk => ?_, fun k hk => .inr hk, fun i k hi hk hf => ?_, fun e => ?_, fun e => ?_, h.keep.turn (t.mono fun k hk => .inl (h.xfp k hk)) fun k hk => ?_⟩⟩
  · rcases hk with hk | hk
    · exact Nat.lt_of_lt_of_le (h.lt k hk) t.size
    · exact hlt k hk
  · rcases hk with hk | hk
    · exact h.ge k hk
    · rcases hX k hk with e | e
      · exact h.ge k (h.xfp k e)
      · omega
  · rcases hX k hk with e | e
    · exact h.xF i k hi e hf
    · have := h.lt k (h.fpF i k hi hf); omega
  · rcases hX _ e with e | e
    · exact h.xl e
    · have := h.lt _ h.fpl; omega
  · rcases hX _ e with e | e
    · exact h.xa e
    · have := h.lt _ h.fpa; omega
  · rcases hk with (hk | hk) | hk
    · exact .inl (.inl hk)
    · exact (hX k hk).imp (fun e => .inl (h.xfp k e)) id
    · exact .inl (.inr hk)
theorem StG.lt (h : StG m X B w x l ds aw K P) : (∀ k, X k → k < w.heap.size) ∧ B ≤ w.heap.size := by
  obtain ⟨fp, F, bs, h⟩ := h
  refine ⟨fun k hk => h.lt k (h.xfp k hk), ?_⟩
  have h1 := h.ge _ h.fpl
  have h2 := h.lt _ h.fpl
  omega
theorem StG.below (h : StG m X B w x l ds aw K P) (hb : Below w.heap.size w w') : StG m X B w' x l ds aw K P :=
  h.turnX (Turn.of_below hb) (fun _ hk => .inl hk) (fun k hk => Nat.lt_of_lt_of_le (h.lt.1 k hk) hb.size) h.lt.2
theorem StG.add (h : StG m X B w x l ds aw K P) (hb : Below w.heap.size w w') (hq : New w.heap.size w' Q) : StG m X B w' x l ds aw K (fun w => P w ∧ Q w) := by
  obtain ⟨fp, F, bs, h⟩ := h
  have t : Turn (fun k => fp k ∨ k < B) w w' := Turn.of_below hb
  have hBs : B ≤ w.heap.size := Nat.le_trans (h.ge _ h.fpl) (Nat.le_of_lt (h.lt _ h.fpl))
  refine ⟨fp, F, bs, ⟨h.ptr.same (hb.block _ (h.lt _ h.fpl)), h.awy.same (hb.block _ (h.lt _ h.fpa)), fun i hi => (h.dev i hi).below hb, h.good, h.apart, h.lbF, h.abF, h.lbab, h.fpF, h.fpl, h.fpa, fun k hk => Nat.lt_of_lt_of_le (h.lt k hk) hb.size, h.ge, h.xfp, h.xF, h.xl, h.xa, ?_⟩⟩
  exact fun w2 t2 => ⟨(h.keep w2 (t.trans t2 fun k hk => .inl hk)).1, (h.keep w2 (t.trans t2 fun k hk => .inl hk)).2, (hq.keep (fp := fun k => fp k ∨ k < B) fun k hk => hk.elim (h.lt k) fun e => by omega) w2 t2⟩
/-- A device, to be read. -/
theorem StG.at_ (h : StG m X B w x l ds aw K P) {i : Nat} (hi : i < m) : ∃ b f, w.cell? ⟨x.lb, i, none⟩ = some (.pointer (some ⟨b, 0, none⟩)) ∧ DevAt w b (ds i) f := by
  obtain ⟨fp, F, bs, h⟩ := h
  exact ⟨bs i, F i, h.ptr.c i hi, h.dev i hi⟩
theorem StG.away (h : StG m X B w x l ds aw K P) {i : Nat} (hi : i < x.n) : w.cell? ⟨x.ab, i, none⟩ = some (.bool (aw i)) ∧ w.frozen? ⟨x.ab, i, none⟩ = false := by
  obtain ⟨fp, F, bs, h⟩ := h
  exact ⟨h.awy.c i hi, h.awy.fz i hi⟩
/-- Something is done to a device. -/
theorem StG.did (h : StG m X B w x l ds aw K P) {i : Nat} (hi : i < m) : ∃ b f, w.cell? ⟨x.lb, i, none⟩ = some (.pointer (some ⟨b, 0, none⟩)) ∧ DevAt w b (ds i) f ∧
    ∀ S' w' K', Did f b S' w w' → DGood x.sc K' S' → K ≤ K' → StG m X B w' x l (upd ds i S') aw K' P ∧ Below B w w' ∧ w'.heap[x.lb]? = w.heap[x.lb]? ∧ ∀ k, X k → w'.heap[k]? = w.heap[k]? := by
  obtain ⟨fp, F, bs, h⟩ := h
  refine ⟨bs i, F i, h.ptr.c i hi, h.dev i hi, fun S' w' K' ⟨f', hd, hf', t⟩ hg hK => ?_⟩
  have hlt : ∀ k, F i k → k < w.heap.size := fun k hk => h.lt k (h.fpF i k hi hk)
  have hsz : B ≤ w.heap.size := by
    have h1 := h.ge _ h.fpl
    have h2 := h.lt _ h.fpl
    omega
  refine ⟨⟨fun k => fp k ∨ f' k, upd F i f', bs, ⟨h.ptr.same (t.block _ (h.lt _ h.fpl) (h.lbF i hi)), h.awy.same (t.block _ (h.lt _ h.fpa) (h.abF i hi)), fun j hj => ?_, fun j hj => ?_, ?_, fun j hj => ?_, fun j hj => ?_, h.lbab, fun j k hj hk => ?_, .inl h.fpl, .inl h.fpa, fun k hk => ?_, fun k hk => ?_, fun k hk => .inl (h.xfp k hk), fun j k hj hk => ?_, h.xl, h.xa, h.keep.turn (t.mono fun k hk => .inl (h.fpF i k hi hk)) fun k hk => ?_⟩⟩, t.below (fun k hk => h.ge k (h.fpF i k hi hk)) hsz, t.block _ (h.lt _ h.fpl) (h.lbF i hi), fun k hk => t.block k (h.lt k (h.xfp k hk)) fun e => h.xF i k hi hk e⟩
  · by_cases e : j = i
    · subst e; rw [upd_same, upd_same]; exact hd
    · rw [upd_other _ _ e, upd_other _ _ e]
      exact (h.dev j hj).same t.size fun k hk => t.block k (h.lt k (h.fpF j k hj hk)) fun e2 => e (h.apart j i k hj hi hk e2)
  · by_cases e : j = i
    · subst e; rw [upd_same]; exact hg
    · rw [upd_other _ _ e]; exact (h.good j hj).mono hK
  · intro a b k ha hb h1 h2
    by_cases ea : a = i
    · by_cases eb : b = i
      · rw [ea, eb]
      · subst ea
        rw [upd_same] at h1
        rw [upd_other _ _ eb] at h2
        rcases hf' k h1 with e | e
        · exact h.apart _ _ k ha hb e h2
        · have := h.lt k (h.fpF b k hb h2); omega
    · rw [upd_other _ _ ea] at h1
      by_cases eb : b = i
      · subst eb
        rw [upd_same] at h2
        rcases hf' k h2 with e | e
        · exact h.apart _ _ k ha hb h1 e
        · have := h.lt k (h.fpF a k ha h1); omega
      · rw [upd_other _ _ eb] at h2
        exact h.apart a b k ha hb h1 h2
  · by_cases e : j = i
    · subst e; rw [upd_same]
      intro e2
      rcases hf' _ e2 with e2 | e2
      · exact h.lbF _ hi e2
      · have := h.lt _ h.fpl; omega
    · rw [upd_other _ _ e]; exact h.lbF j hj
  · by_cases e : j = i
    · subst e; rw [upd_same]
      intro e2
      rcases hf' _ e2 with e2 | e2
      · exact h.abF _ hi e2
      · have := h.lt _ h.fpa; omega
    · rw [upd_other _ _ e]; exact h.abF j hj
  · by_cases e : j = i
    · subst e; rw [upd_same] at hk; exact .inr hk
    · rw [upd_other _ _ e] at hk; exact .inl (h.fpF j k hj hk)
  · rcases hk with hk | hk
    · exact Nat.lt_of_lt_of_le (h.lt k hk) t.size
    · obtain ⟨_, _, _, _, hin⟩ := hd
      exact hin.lt k hk
  · rcases hk with hk | hk
    · exact h.ge k hk
    · rcases hf' k hk with e | e
      · exact h.ge k (h.fpF i k hi e)
      · omega
  · by_cases e : j = i
    · subst e; rw [upd_same]
      intro e2
      rcases hf' _ e2 with e2 | e2
      · exact h.xF _ _ hi hk e2
      · have := h.lt _ (h.xfp k hk); omega
    · rw [upd_other _ _ e]; exact h.xF j k hj hk
  · rcases hk with (hk | hk) | hk
    · exact .inl (.inl hk)
    · exact (hf' k hk).imp (fun e => .inl (h.fpF i k hi e)) id
    · exact .inl (.inr hk)
/-- A device's mark is set. -/
theorem StG.mark (h : StG m X B w x l ds aw K P) {i : Nat} (hi : i < x.n) (v : Bool) : StG m X B (w.setCell ⟨x.ab, i, none⟩ (.bool v)) x l ds (upd aw i v) K P ∧ Below B w (w.setCell ⟨x.ab, i, none⟩ (.bool v)) ∧ ∀ k, X k → (w.setCell ⟨x.ab, i, none⟩ (.bool v)).heap[k]? = w.heap[k]? := by
  obtain ⟨fp, F, bs, h⟩ := h
  have ho : ∀ k, k ≠ x.ab → (w.setCell ⟨x.ab, i, none⟩ (.bool v)).heap[k]? = w.heap[k]? := fun k hk => Below.heap_setCell _ _ _ _ hk
  have hz : (w.setCell ⟨x.ab, i, none⟩ (.bool v)).heap.size = w.heap.size := by simp [World.setCell]
  have t : Turn fp w (w.setCell ⟨x.ab, i, none⟩ (.bool v)) := (Turn.refl fp w).setCell (.inl h.fpa) _
  refine ⟨⟨fp, F, bs, ⟨h.ptr.same (ho _ h.lbab), (h.awy.set i hi (.bool v)).congr fun j _ => ?_, fun j hj => (h.dev j hj).same (by rw [hz]; exact Nat.le_refl _) fun k hk => ho k fun e => h.abF j hj (e ▸ hk), h.good, h.apart, h.lbF, h.abF, h.lbab, h.fpF, h.fpl, h.fpa, fun k hk => by rw [hz]; exact h.lt k hk, h.ge, h.xfp, h.xF, h.xl, h.xa, h.keep.turn (t.mono fun _ hk => .inl hk) fun _ hk => .inl hk⟩⟩, ?_, fun k hk => ho k fun e => h.xa (e ▸ hk)⟩
  · unfold upd; split <;> rfl
  · have h1 := h.ge _ h.fpl
    have h2 := h.lt _ h.fpl
    exact t.below h.ge (by omega)
/-- Blocks that lie ahead of all that is the devices' have turned. -/
theorem StG.old (h : StG m X B w x l ds aw K P) (t : Turn (fun k => k < B) w w') : StG m X B w' x l ds aw K P := by
  obtain ⟨fp, F, bs, h⟩ := h
  have hs : ∀ k, fp k → w'.heap[k]? = w.heap[k]? := fun k hk => t.block k (h.lt k hk) fun e => by have := h.ge k hk; omega
  exact ⟨fp, F, bs, ⟨h.ptr.same (hs _ h.fpl), h.awy.same (hs _ h.fpa), fun i hi => (h.dev i hi).same t.size fun k hk => hs k (h.fpF i k hi hk), h.good, h.apart, h.lbF, h.abF, h.lbab, h.fpF, h.fpl, h.fpa, fun k hk => Nat.lt_of_lt_of_le (h.lt k hk) t.size, h.ge, h.xfp, h.xF, h.xl, h.xa, h.keep.turn (t.mono fun _ hk => .inr hk) fun _ hk => .inl hk⟩⟩
/-- The blocks X are let go, and what stands in them is kept from now on. -/
theorem StG.release (h : StG m X B w x l ds aw K P) (hx : ∀ k, X k → B ≤ k) (hq : ∀ w', w.heap.size ≤ w'.heap.size → (∀ k, X k → w'.heap[k]? = w.heap[k]?) → Q w') : StG m (fun _ => False) B w x l ds aw K (fun w => P w ∧ Q w) := by
  obtain ⟨fp, F, bs, h⟩ := h
  refine ⟨fun k => fp k ∧ ¬ X k, F, bs, ⟨h.ptr, h.awy, h.dev, h.good, h.apart, h.lbF, h.abF, h.lbab, fun i k hi hk => ⟨h.fpF i k hi hk, fun e => h.xF i k hi e hk⟩, ⟨h.fpl, h.xl⟩, ⟨h.fpa, h.xa⟩, fun k hk => h.lt k hk.1, fun k hk => h.ge k hk.1, fun k hk => hk.elim, fun i k hi hk => hk.elim, fun e => e, fun e => e, fun w' t => ?_⟩⟩
  have hk := h.keep.sub (fp1 := fun k => (fp k ∧ ¬ X k) ∨ k < B) fun k hk => hk.imp (fun e => e.1) id
  exact ⟨(hk w' t).1, (hk w' t).2, hq w' t.size fun k hX => t.block k (h.lt k (h.xfp k hX)) fun e => e.elim (fun e => e.2 hX) fun e => by have := hx k hX; omega⟩
end

section
variable {X : Nat → Prop} {B : Nat} {w w' : World} {x : Px} {l : List (Int × Int)} {ds : Nat → Dv} {aw : Nat → Bool} {K : Nat} {P Q : World → Prop}
theorem StX.right (h : StX X B w x l ds aw K P) : RightM l x.sc ∧ devsL l x.sc = (x.n : Int) := ⟨h.1, h.2.1⟩
theorem StX.meas (h : StX X B w x l ds aw K P) : Meas w x.g l x.sc := h.2.2.meas
theorem StX.out (h : StX X B w x l ds aw K P) : P w := h.2.2.out
theorem StX.good (h : StX X B w x l ds aw K P) {i : Nat} (hi : i < x.n) : DGood x.sc K (ds i) := h.2.2.good hi
theorem StX.mono (h : StX X B w x l ds aw K P) (k : ∀ w, P w → Q w) : StX X B w x l ds aw K Q := ⟨h.1, h.2.1, h.2.2.mono k⟩
theorem StX.sub (h : StX X B w x l ds aw K P) {X' : Nat → Prop} (k : ∀ i, X' i → X i) : StX X' B w x l ds aw K P := ⟨h.1, h.2.1, h.2.2.sub k⟩
theorem StX.more (h : StX X B w x l ds aw K P) {K' : Nat} (hk : K ≤ K') : StX X B w x l ds aw K' P := ⟨h.1, h.2.1, h.2.2.more hk⟩
theorem StX.lower (h : StX X B w x l ds aw K P) {B' : Nat} (hB : B' ≤ B) : StX X B' w x l ds aw K P := ⟨h.1, h.2.1, h.2.2.lower hB⟩
theorem StX.turnX (h : StX X B w x l ds aw K P) {X' : Nat → Prop} (t : Turn X w w') (hX : ∀ k, X' k → X k ∨ w.heap.size ≤ k) (hlt : ∀ k, X' k → k < w'.heap.size) (hB : B ≤ w.heap.size) : StX X' B w' x l ds aw K P := ⟨h.1, h.2.1, h.2.2.turnX t hX hlt hB⟩
theorem StX.lt (h : StX X B w x l ds aw K P) : (∀ k, X k → k < w.heap.size) ∧ B ≤ w.heap.size := h.2.2.lt
theorem StX.ge (h : StX X B w x l ds aw K P) : ∀ k, X k → B ≤ k := by
  obtain ⟨_, _, fp, F, bs, h⟩ := h
  exact fun k hk => h.ge k (h.xfp k hk)
theorem StX.below (h : StX X B w x l ds aw K P) (hb : Below w.heap.size w w') : StX X B w' x l ds aw K P := ⟨h.1, h.2.1, h.2.2.below hb⟩
theorem StX.old (h : StX X B w x l ds aw K P) (t : Turn (fun k => k < B) w w') : StX X B w' x l ds aw K P := ⟨h.1, h.2.1, h.2.2.old t⟩
theorem StX.release (h : StX X B w x l ds aw K P) (hq : ∀ w', w.heap.size ≤ w'.heap.size → (∀ k, X k → w'.heap[k]? = w.heap[k]?) → Q w') : St B w x l ds aw K (fun w => P w ∧ Q w) := ⟨h.1, h.2.1, h.2.2.release h.ge hq⟩
theorem StX.add (h : StX X B w x l ds aw K P) (hb : Below w.heap.size w w') (hq : New w.heap.size w' Q) : StX X B w' x l ds aw K (fun w => P w ∧ Q w) := ⟨h.1, h.2.1, h.2.2.add hb hq⟩
theorem StX.at_ (h : StX X B w x l ds aw K P) {i : Nat} (hi : i < x.n) : ∃ b f, w.cell? ⟨x.lb, i, none⟩ = some (.pointer (some ⟨b, 0, none⟩)) ∧ DevAt w b (ds i) f := h.2.2.at_ hi
theorem StX.away (h : StX X B w x l ds aw K P) {i : Nat} (hi : i < x.n) : w.cell? ⟨x.ab, i, none⟩ = some (.bool (aw i)) ∧ w.frozen? ⟨x.ab, i, none⟩ = false := h.2.2.away hi
theorem StX.did (h : StX X B w x l ds aw K P) {i : Nat} (hi : i < x.n) : ∃ b f, w.cell? ⟨x.lb, i, none⟩ = some (.pointer (some ⟨b, 0, none⟩)) ∧ DevAt w b (ds i) f ∧
    ∀ S' w' K', Did f b S' w w' → DGood x.sc K' S' → K ≤ K' → StX X B w' x l (upd ds i S') aw K' P ∧ Below B w w' ∧ w'.heap[x.lb]? = w.heap[x.lb]? ∧ ∀ k, X k → w'.heap[k]? = w.heap[k]? := by
  obtain ⟨b, f, h1, h2, h3⟩ := h.2.2.did hi
  refine ⟨b, f, h1, h2, fun S' w' K' hd hg hk => ?_⟩
  obtain ⟨h4, h5⟩ := h3 S' w' K' hd hg hk
  exact ⟨⟨h.1, h.2.1, h4⟩, h5⟩
theorem StX.mark (h : StX X B w x l ds aw K P) {i : Nat} (hi : i < x.n) (v : Bool) : StX X B (w.setCell ⟨x.ab, i, none⟩ (.bool v)) x l ds (upd aw i v) K P ∧ Below B w (w.setCell ⟨x.ab, i, none⟩ (.bool v)) ∧ ∀ k, X k → (w.setCell ⟨x.ab, i, none⟩ (.bool v)).heap[k]? = w.heap[k]? := by
  obtain ⟨h1, h2⟩ := h.2.2.mark hi v
  exact ⟨⟨h.1, h.2.1, h1⟩, h2⟩
end

/-- Block b is a set of the numbers S (a map of at most n entries). -/
def SMap (w : World) (b n : Nat) (S : List Nat) : Prop :=
  S.Nodup ∧ ∃ D : DataW Unit, w.ownsMap Tryz.prog 3 unitElem b n D ∧ Maps.size D = S.length ∧ ∀ k : Nat, k < 9223372036854775808 → has D (.int .i64 (k : Int)) = decide (k ∈ S)
theorem lawI : Keyed Tryz.prog 3 := int_keyed Tryz.underlying3
theorem SMap.made (w : World) : SMap (w.alloc (.map #[] 0)) w.heap.size 0 [] := ⟨List.nodup_nil, .map [], World.ownsMap_made w _ _ _, rfl, fun _ _ => rfl⟩
theorem SMap.same {w w' : World} {b n : Nat} {S : List Nat} (h : SMap w b n S) (hb : w'.heap[b]? = w.heap[b]?) : SMap w' b n S := by
  obtain ⟨h0, D, ⟨es, cl, h1, r⟩, h2⟩ := h
  exact ⟨h0, D, ⟨es, cl, hb.trans h1, r⟩, h2⟩
theorem SMap.lt {w : World} {b n : Nat} {S : List Nat} (h : SMap w b n S) : b < w.heap.size := by
  obtain ⟨_, D, h1, _⟩ := h
  exact h1.lt
theorem SMap.len {w : World} {b n : Nat} {S : List Nat} (h : SMap w b n S) (ty : TypeId) : (Builtin.len_ #[57] ty #[.map (some b)]).run Tryz.prog w = .ok (.int .i64 (S.length : Int)) w := by
  obtain ⟨_, D, h1, h2, _⟩ := h
  rw [← h2]
  exact h1.len Tryz.underlying57 ty
theorem SMap.le {w : World} {b n : Nat} {S : List Nat} (h : SMap w b n S) : S.length ≤ n := by
  obtain ⟨_, D, h1, h2, _⟩ := h
  rw [← h2]
  exact h1.size_le
def putN (S : List Nat) (k : Nat) : List Nat := if k ∈ S then S else S ++ [k]
theorem SMap.put {w : World} {b n : Nat} {S : List Nat} (h : SMap w b n S) (k : Nat) (hk : k < 9223372036854775808) (hn : n < maxLen) :
    ∃ w', (Instr.mapUpdate 57 (.map (some b)) (.int .i64 (k : Int)) (.agg #[])).run Tryz.prog w = .ok () w' ∧ SMap w' b (n + 1) (putN S k) ∧ w.mapTurned w' b := by
  obtain ⟨h0, D, h1, h2, h3⟩ := h
  have hwf : ∀ j : Nat, j < 9223372036854775808 → (Lit.int .i64 (j : Int)).wf = true := fun j hj => WalkArith.wf_i64 (by omega)
  have hkey := keyOf_int_mk (P := Tryz.prog) Tryz.underlying3 (hwf k hk)
  have hik : WideAt.IsKeyLit (.int .i64 (k : Int)) := lawI.key hkey
  obtain ⟨w', hr, h4, h5⟩ := h1.store lawI Tryz.underlying57 hn hkey unitElem_mk
  refine ⟨w', hr, ⟨?_, _, h4, ?_, fun j hj => ?_⟩, h5⟩
  · unfold putN
    split
    · exact h0
    · rename_i hm
      exact List.nodup_append.2 ⟨h0, by simp, fun a ha b hb => by rw [List.mem_singleton.1 hb]; intro e; exact hm (e ▸ ha)⟩
  · rw [Maps.size_put (h1.tidy lawI), h3 k hk, h2]
    unfold putN
    by_cases hm : k ∈ S
    · simp [hm]
    · simp [hm]
  · by_cases e : j = k
    · subst e
      rw [has_put_same h1.isMap hik]
      unfold putN
      split <;> simp [*]
    · rw [has_put_other (by intro h; apply e; cases h; rfl), h3 j hj]
      unfold putN
      split <;> simp [e]
end Go.Proofs.YtlhnmcopioeboaaGreat

/- What pass, rest, last and Read of a device answer. -/
namespace Go.Proofs.YtlhnmcopioeboaaGreat
set_option maxRecDepth 100000
open Go.RowKit Go.Maps

/-- Whether a write or a flush is let through, and what is left then. -/
def Dv.pass (S : Dv) : Bool := !S.fused || decide (0 < S.left)
def Dv.spent (S : Dv) : Dv := { S with left := if S.fused then S.left - 1 else S.left }
theorem pass_any (b mb cb m : Nat) (hd : Nat → Nat × Nat) (S : Dv) (fp : Nat → Prop) (w : World) (h : DevIn w b mb cb m hd S fp) :
    Calls Tryz.prog 60 #[.pointer (some ⟨b, 0, none⟩)] w fun e w' => e = .returned (.bool S.pass) ∧ DevIn w' b mb cb m hd S.spent fp ∧ Turn fp w w' ∧ w'.heap.size = w.heap.size := by
  have c3 := h.c3
  have c4 := h.c4
  have f4 := h.fr 4
  have hl := h.ok.left
  have H := Lib.hid h
  clear h
  by_cases hf : S.fused = true
  · by_cases h0 : S.left = 0
    · rw [hf] at c3
      rw [h0] at c4
      go_enter Tryz.func60, Tryz.ntmps60
      go_wp2
      go_ret
      refine ⟨by simp [Dv.pass, hf, h0], ?_, Turn.refl _ _, rfl⟩
      have e : S.spent = S := by unfold Dv.spent; rw [hf, h0]; cases S; simp_all
      rw [e]
      exact H.out
    · rw [hf] at c3
      have h1 : ((S.left : Int) == 0) = false := by simp; omega
      have HS : Hid ((S.left : Int) - 1 = ((S.left - 1 : Nat) : Int)) := by show (S.left : Int) - 1 = _; omega
      go_enter Tryz.func60, Tryz.ntmps60
      go_wp2
      go_ret
      rw [HS.out]
      refine ⟨by simp [Dv.pass, hf]; omega, ?_, (Turn.refl _ _).setCell (.inl H.out.fb) _, by simp [World.setCell]⟩
      have e : S.spent = { S with left := S.left - 1 } := by unfold Dv.spent; rw [hf]; simp
      rw [e]
      exact H.out.set4 _ (by omega)
  · have hf' : S.fused = false := by simpa using hf
    rw [hf'] at c3
    go_enter Tryz.func60, Tryz.ntmps60
    go_wp2
    go_ret
    refine ⟨by simp [Dv.pass, hf'], ?_, Turn.refl _ _, rfl⟩
    have e : S.spent = S := by unfold Dv.spent; rw [hf']; cases S; simp_all
    rw [e]
    exact H.out

theorem tmod_low (n m : Int) (h : 0 < m) : -m < n.tmod m := by
  rw [Int.tmod_eq_emod]
  have h1 := Int.emod_nonneg n (show m ≠ 0 by omega)
  split
  · omega
  · rename_i hcond
    have : n % m ≠ 0 := fun e => hcond (.inr (Int.dvd_of_emod_eq_zero e))
    omega
theorem emod_tmod (n m : Int) (h : 0 < m) : n % m = if n.tmod m < 0 then n.tmod m + m else n.tmod m := by
  have h1 := Int.emod_nonneg n (show m ≠ 0 by omega)
  have h2 := Int.emod_lt_of_pos n h
  rw [Int.tmod_eq_emod]
  split
  · rw [if_neg (by omega)]; omega
  · rename_i hcond
    have : n % m ≠ 0 := fun e => hcond (.inr (Int.dvd_of_emod_eq_zero e))
    rw [if_pos (by omega)]
    omega
/-- Where that stands which a sector reads as: the block, the place in its row, and the row. -/
def lastG (S : Dv) (mb : Nat) (hd : Nat → Nat × Nat) (k : Nat) : Nat := if S.since k = [] then mb else (hd k).1
def lastI (S : Dv) (k : Nat) : Nat := if S.since k = [] then k else (S.since k).length - 1
def lastL (S : Dv) (k : Nat) : List Sec := if S.since k = [] then S.med else S.since k
def lastC (S : Dv) (hd : Nat → Nat × Nat) (k : Nat) : Nat := if S.since k = [] then S.med.length else (hd k).2
/-- What a sector reads as. -/
def Dv.now (S : Dv) (k : Nat) : Sec := (S.since k).getLastD (S.med.getD k [])
theorem last_rows {w : World} {b mb cb m : Nat} {hd : Nat → Nat × Nat} {S : Dv} {fp : Nat → Prop} (h : DevIn w b mb cb m hd S fp) (k : Nat) (hk : k < S.med.length) :
    Rows w (lastG S mb hd k) (lastC S hd k) (lastL S k) ∧ ∃ hi : lastI S k < (lastL S k).length, (lastL S k)[lastI S k] = S.now k := by
  unfold lastG lastC lastL lastI Dv.now
  by_cases e : S.since k = []
  · simp only [e, if_true]
    refine ⟨h.med, hk, ?_⟩
    simp [List.getD_eq_getElem?_getD, List.getElem?_eq_getElem hk]
  · simp only [e, if_false]
    have hp : 0 < (S.since k).length := List.length_pos_iff.2 e
    refine ⟨h.vers k e, by omega, ?_⟩
    rw [List.getLastD_eq_getLast?, List.getLast?_eq_getElem?, List.getElem?_eq_getElem (by omega)]
    rfl
theorem last_any (b mb cb m : Nat) (hd : Nat → Nat × Nat) (S : Dv) (fp : Nat → Prop) (k : Nat) (w : World) (h : DevIn w b mb cb m hd S fp) (hk : k < S.med.length) :
    Calls Tryz.prog 46 #[.pointer (some ⟨b, 0, none⟩), .int .i64 (k : Int)] w fun e w' => e = .returned (.pointer (some ⟨lastG S mb hd k, lastI S k * 64, none⟩)) ∧ w = w' := by
  have c0 := h.c0
  have c1 := h.c1
  have hn := h.ok.n2
  have hlook := h.map.look (k : Int) (wfN k (by omega))
  unfold lastG lastI
  by_cases e : S.since k = []
  · have e1 : hdOf S hd (k : Int) = none := by unfold hdOf; rw [if_pos (.inr (by simpa using e))]
    rw [e1] at hlook
    simp only [e, if_true]
    clear h e e1
    generalize S.med.length = n at *
    simp only [Hd.val] at hlook
    go_enter Tryz.func46, Tryz.ntmps46
    go_wp2
    go_ret
    exact ⟨rfl, rfl⟩
  · have e1 : hdOf S hd (k : Int) = some ((hd k).1, (S.since k).length, (hd k).2) := by
      unfold hdOf; rw [if_neg (by simpa using e)]; rfl
    rw [e1] at hlook
    have hp : 0 < (S.since k).length := List.length_pos_iff.2 e
    have hc := (h.vers k e).le
    have hc2 := (h.vers k e).cap
    simp only [e, if_false]
    clear h e e1
    generalize (S.since k).length = q at *
    obtain ⟨j, rfl⟩ : ∃ j, q = j + 1 := ⟨q - 1, by omega⟩
    generalize S.med.length = n at *
    simp only [Hd.val] at hlook
    unfold maxLen at hc2
    go_enter Tryz.func46, Tryz.ntmps46
    go_wp2
    go_ret
    exact ⟨rfl, rfl⟩

def strOf (s : Sec) : ByteArray := ⟨s.toArray⟩
theorem conv_sec (w : World) (g o : Nat) (s : Sec) (h : w.rangeAt g o (secCells s)) (hs : s.length = 64) :
    (convert 53 9 (.slice (some ⟨g, o, none⟩) 64 64)).run Tryz.prog w = .ok (.string (strOf s)) w := by
  have := run_convert_bytes_back (P := Tryz.prog) w 53 9 5 ⟨g, o, none⟩ 64 s Tryz.underlying53 Tryz.underlying5 Tryz.underlying9 (fun j hj => by
    rw [Addr.add_mid]
    exact h j _ (by rw [secCells, List.getElem?_map, List.getElem?_eq_getElem hj]; rfl))
  rw [hs] at this
  exact this
theorem read_ok (b : Nat) (S : Dv) (fp : Nat → Prop) (k : Nat) (w : World) (h : DevAt w b S fp) (hl : S.lost = false) (hk : k < S.med.length) :
    Calls Tryz.prog 22 #[.pointer (some ⟨b, 0, none⟩), .int .i64 (k : Int)] w fun e w' => e = .returned (.tuple #[.string (strOf (S.now k)), .int .i64 0]) ∧ w = w' := by
  have hR := reach_any b S fp k w h
  rw [show reachE S (k : Int) = 0 by unfold reachE; rw [hl]; simp; omega] at hR
  obtain ⟨mb, cb, m, hd, h⟩ := h
  have hA := last_any b mb cb m hd S fp k w h hk
  obtain ⟨hr, hi, hnow⟩ := last_rows h k hk
  have hc := conv_sec w _ _ _ (hr.range _ hi) (hr.at_ _ hi)
  rw [hnow] at hc
  clear hr hnow hi h
  generalize lastG S mb hd k = g at *
  generalize lastI S k * 64 = o at *
  generalize strOf (S.now k) = t at *
  go_enter Tryz.func22, Tryz.ntmps22
  go_wp2_with fail
  refine hR.mono ?_
  rintro e w1 ⟨rfl, rfl⟩
  go_wp2_with fail
  refine hA.mono ?_
  rintro e w1 ⟨rfl, rfl⟩
  go_wp2
  go_ret2
  exact ⟨rfl, rfl⟩
theorem read_no (b : Nat) (S : Dv) (fp : Nat → Prop) (k : Int) (w : World) (h : DevAt w b S fp) (he : ¬ reachE S k = 0) :
    Calls Tryz.prog 22 #[.pointer (some ⟨b, 0, none⟩), .int .i64 k] w fun e w' => e = .returned (.tuple #[.string ⟨#[]⟩, .int .i64 (reachE S k)]) ∧ w = w' := by
  have hR := reach_any b S fp k w h
  clear h
  generalize reachE S k = x at *
  have he1 : (x == 0) = false := by simpa using he
  have he2 : (x != 0) = true := by simpa using he
  go_enter Tryz.func22, Tryz.ntmps22
  go_wp2_with fail
  refine hR.mono ?_
  rintro e w1 ⟨rfl, rfl⟩
  go_wp2
  go_ret2
  exact ⟨rfl, rfl⟩
theorem read_nil (k : Int) (w : World) :
    Calls Tryz.prog 22 #[.pointer none, .int .i64 k] w fun e w' => e = .returned (.tuple #[.string ⟨#[]⟩, .int .i64 6]) ∧ w = w' := by
  go_enter Tryz.func22, Tryz.ntmps22
  go_wp2_with fail
  refine (reach_nil _ _).mono ?_
  rintro e w1 ⟨rfl, rfl⟩
  go_wp2
  go_ret2
  exact ⟨rfl, rfl⟩

theorem Did.of {w w' : World} {b mb cb m : Nat} {hd : Nat → Nat × Nat} {S : Dv} {fp : Nat → Prop} (h : DevIn w' b mb cb m hd S fp) (ht : Turn fp w w') : Did fp b S w w' := ⟨fp, ⟨mb, cb, m, hd, h⟩, fun _ h => .inl h, ht⟩
theorem wpList_clear {P : Program} {ops : Array Oper} {rest : List Oper} {o : Oper} {a : Act} {Q : Exit → Act → World → Prop} (w : World) (hgd : o.guard = none) (x : Operand) (t : TypeId)
    (ho : o.op = .call { callee := .builtin .clear, args := #[x], argTypes := #[t] }) (xv : Value) (hx : a.eval x = xv) (w' : World) (hr : (Builtin.clear_ #[t] o.type #[xv]).run P w = .ok (.tuple #[]) w')
    (h : wpList P ops Q rest (a.put o.dst (.tuple #[])) w') : wpList P ops Q (o :: rest) a w := by
  refine wpList_plain hgd fun K' hK' => ?_
  unfold Oper.wp
  simp [execOp, ho, resolve, invoke, builtin, hx, hr, Result.andThen]
  exact hK' _ _ h
/-- The cache is emptied. -/
def Dv.bare (S : Dv) : Dv := { S with since := fun _ => [], cnt := 0 }
theorem DevIn.wiped {w w' : World} {b mb cb m : Nat} {hd : Nat → Nat × Nat} {S : Dv} {fp : Nat → Prop} (h : DevIn w b mb cb m hd S fp) (hc : CMap w' cb 0 fun _ => none) (ht : w.mapTurned w' cb) : DevIn w' b mb cb 0 hd S.bare fp := by
  have hg := ht.grown
  have ho : ∀ k, k < w.heap.size → k ≠ cb → w'.heap[k]? = w.heap[k]? := fun k hk hne => hg.block k hk (fun e => by cases e; exact hne rfl)
  refine ⟨⟨h.ok.n1, h.ok.n2, fun _ _ => rfl, h.ok.left, fun _ => Nat.le_refl _⟩, (ho b h.blt h.cbb.symm).trans h.blk, h.med.same (ho _ h.med.lt h.cmb.symm), hc.congr fun k _ => ?_, Nat.le_refl _, fun i hi => absurd rfl hi, fun i _ hi => absurd rfl hi, fun i hi => absurd rfl hi, h.fb, h.fm, h.fc,
    fun i hi => absurd rfl hi, fun k hk => by rw [mapTurned_size ht]; exact h.lt k hk⟩
  unfold hdOf
  rw [if_pos (.inr rfl)]
theorem wipe_any {w : World} {b mb cb m : Nat} {hd : Nat → Nat × Nat} {S : Dv} {fp : Nat → Prop} (h : DevIn w b mb cb m hd S fp) (ty : TypeId) :
    ∃ w', (Builtin.clear_ #[85] ty #[.map (some cb)]).run Tryz.prog w = .ok (.tuple #[]) w' ∧ DevIn w' b mb cb 0 hd S.bare fp ∧ Turn fp w w' := by
  obtain ⟨w', h1, h2, h3⟩ := h.map.wipe ty
  exact ⟨w', h1, h.wiped h2 h3, (Turn.refl _ _).mapTurned h.fc h3⟩
theorem lose_nil (w : World) :
    Calls Tryz.prog 12 #[.pointer none] w fun e w' => e = .returned (.tuple #[]) ∧ w = w' := by
  go_enter Tryz.func12, Tryz.ntmps12
  go_wp2
  exact bodyPost_ret (results_none rfl _ _ _) rfl ⟨rfl, rfl⟩
theorem lose_any (b : Nat) (S : Dv) (fp : Nat → Prop) (w : World) (h : DevAt w b S fp) :
    Calls Tryz.prog 12 #[.pointer (some ⟨b, 0, none⟩)] w fun e w' => e = .returned (.tuple #[]) ∧ Did fp b { S.bare with lost := true } w w' := by
  obtain ⟨mb, cb, m, hd, h⟩ := h
  have c2 := h.c2
  have f2 := h.fr 2
  have c1 := h.c1
  have h2 := h.set2 true
  have H := Lib.hid h
  have t1 : Turn fp w (w.setCell ⟨b, 2, none⟩ (.bool true)) := (Turn.refl _ _).setCell (.inl h.fb) _
  clear h
  go_enter Tryz.func12, Tryz.ntmps12
  go_wp2_with (obtain ⟨w', hr, h3, h4⟩ := wipe_any h2 _; refine wpList_clear _ rfl _ _ rfl _ rfl _ hr ?_)
  go_end0
  exact ⟨rfl, Did.of h3 (t1.trans h4 fun _ h => .inl h)⟩
end Go.Proofs.YtlhnmcopioeboaaGreat

/- Write. -/
namespace Go.Proofs.YtlhnmcopioeboaaGreat
set_option maxRecDepth 100000
open Go.RowKit Go.Maps

/-- What is written stands behind what was written before. -/
def Dv.put (S : Dv) (k : Nat) (x : Sec) : Dv := { S with since := fun i => if i = k then S.since k ++ [x] else S.since i, cnt := S.cnt + 1 }
theorem info_sec : ∃ i z, Tryz.prog.info? 111 = some i ∧ i.zero = some z ∧ i.size = 64 ∧ i.bytes = 64 ∧ z.cells.size = 64 := by
  obtain ⟨i, h1, h2, h3, h4⟩ := info_parts (P := Tryz.prog) (e := 111) (z := .agg (Array.replicate 64 (.int .u8 0))) (size := 64) (bytes := 64) (by kernel_rfl)
  exact ⟨i, _, h1, h2, h3, h4, by simp [Value.cells]⟩
theorem grown_turn {fp : Nat → Prop} {w w' : World} {v : Option Nat} (h : w.grownBy w' v) (hv : ∀ k, v = some k → fp k) : Turn fp w w' :=
  ⟨h.os, h.tape, h.output, h.size, fun k hk hn => h.block k hk (fun e => hn (hv k e.symm))⟩

theorem write_core {W : World} {b mb cb m : Nat} {hd : Nat → Nat × Nat} {S : Dv} {fp : Nat → Prop} (h : DevIn W b mb cb m hd S fp) (k : Nat) (hk : k < S.med.length) (q : Nat) (x : Sec) (hx : x.length = 64) (hq : W.rangeAt q 0 (secCells x)) (hc : S.cnt < 4294967296) (ty : TypeId) :
    ∃ g c w1 w2, (Builtin.append_ #[84, 84] ty #[(hdOf S hd k).val, .slice (some ⟨q, 0, none⟩) 1 1]).run Tryz.prog W = .ok (.slice (some ⟨g, 0, none⟩) ((S.since k).length + 1) c) w1 ∧
      (Instr.mapUpdate 85 (.map (some cb)) (.int .i64 (k : Int)) (.slice (some ⟨g, 0, none⟩) ((S.since k).length + 1) c)).run Tryz.prog w1 = .ok () w2 ∧
      Turn fp W w1 ∧ w1.cell? ⟨b, 1, none⟩ = some (.map (some cb)) ∧ w2.cell? ⟨b, 1, none⟩ = some (.map (some cb)) ∧ Did fp b (S.put k x) W w2 := by
  obtain ⟨i, z, hi, hz, hs, hb, hzs⟩ := info_sec
  have hn2 := h.ok.n2
  have hlen := h.ok.cnts k
  have hown : W.ownsRow 0 111 64 (hdOf S hd k).val (S.since k).length (flat (S.since k)) := by
    unfold hdOf
    by_cases e : S.since k = []
    · rw [if_pos (.inr (by simpa using e)), e]
      exact World.ownsRow_nil _ _ _ _
    · rw [if_neg (by simpa using e)]
      exact (h.vers k e).owns 0 (Nat.zero_le _)
  have hblk : ∀ j, ((hdOf S hd k).val).ownBlock = some j → S.since k ≠ [] ∧ j = (hd k).1 := by
    intro j
    unfold hdOf
    by_cases e : S.since k = []
    · rw [if_pos (.inr (by simpa using e))]
      intro h; cases h
    · rw [if_neg (by simpa using e)]
      intro h; cases h
      exact ⟨e, rfl⟩
  obtain ⟨v', w1, hr1, ho1, hg1, _, hloc⟩ := run_append_own_at (P := Tryz.prog) W 0 84 ty 111 i z 64 64 Tryz.underlying84 hi hz hs hb hzs (by decide) _ _ _ hown ⟨q, 0, none⟩ 1 1 (secCells x)
    (by rw [secCells_len, hx]) (fun j u hu => by have := hq j u hu; rw [Addr.add_mid]; exact this) (secCells_one x) (by unfold maxLen; omega) (by omega) (Nat.zero_le _)
  rcases ho1.2 with ⟨_, h0⟩ | ⟨g, c, cur, rfl, _, hcur, _⟩
  · omega
  have hall : ∀ s ∈ S.since k ++ [x], s.length = 64 := by
    intro s hs
    rcases List.mem_append.1 hs with hs | hs
    · exact (h.vers k (List.ne_nil_of_mem hs)).len s hs
    · rw [List.mem_singleton.1 hs]; exact hx
  have hrow : Rows w1 g c (S.since k ++ [x]) := by
    refine rows_of_owns (B := 0) (n := (S.since k).length + 1) (by simp) ?_ hall
    have e : flat (S.since k ++ [x]) = flat (S.since k) ++ secCells x := by rw [flat_app]; simp [flat]
    rw [e]
    exact ho1
  have ht1 : Turn fp W w1 := grown_turn hg1 fun j hj => by obtain ⟨e1, rfl⟩ := hblk j hj; exact h.fv k e1
  have hgl : (S.since k ≠ [] ∧ g = (hd k).1) ∨ g = W.heap.size := by
    rcases hloc with e | e
    · exact .inl (hblk g (by rw [← e]; rfl))
    · right; simpa [Value.ownBlock] using e
  have hsame : ∀ j, j < W.heap.size → (S.since k ≠ [] → j ≠ (hd k).1) → w1.heap[j]? = W.heap[j]? := fun j hj hne => hg1.block j hj (fun e => by
    obtain ⟨e1, e2⟩ := hblk j e.symm
    exact hne e1 e2)
  have hmap1 : CMap w1 cb m (hdOf S hd) := h.map.same (hsame cb h.map.lt fun e => h.cv k e)
  have hm := h.mle
  obtain ⟨w2, hr2, hmap2, ht2⟩ := hmap1.put (k : Int) (wfN k (by omega)) (g, (S.since k).length + 1, c) (by unfold maxLen; omega)
  have hb1 : w1.heap[b]? = W.heap[b]? := hsame b h.blt fun e => h.bv k e
  have hg2 := ht2.grown
  have hsame2 : ∀ j, j < w1.heap.size → j ≠ cb → w2.heap[j]? = w1.heap[j]? := fun j hj hne => hg2.block j hj (fun e => by cases e; exact hne rfl)
  have hz1 := hg1.size
  have hcb1 : cb < w1.heap.size := hmap1.lt
  have hgcb : g ≠ cb := by
    intro e
    obtain ⟨es, cl, hm⟩ := hmap1.isMap
    rw [← e, hcur] at hm
    cases hm
  have hb2 : w2.heap[b]? = W.heap[b]? := (hsame2 b (Nat.lt_of_lt_of_le h.blt hz1) h.cbb.symm).trans hb1
  have hgne : ∀ j, S.since j ≠ [] → j ≠ k → (hd j).1 ≠ g := by
    intro j hj hjk e
    rcases hgl with ⟨e1, e2⟩ | e1
    · exact hjk (h.inj j k hj e1 (e.trans e2))
    · have := h.lt _ (h.fv j hj); omega
  have hgmb : g ≠ mb := by
    intro e
    rcases hgl with ⟨e1, e2⟩ | e1
    · exact h.apart k e1 (e2.symm.trans e)
    · have := h.med.lt; omega
  refine ⟨g, c, w1, w2, hr1, hr2, ht1, ?_, ?_, fun j => fp j ∨ j = g, ⟨mb, cb, m + 1, fun j => if j = k then (g, c) else hd j, ?_⟩, ?_, ht1.mapTurned h.fc ht2⟩
  · rw [World.cell?_of_block (w := W) hb1]; exact h.c1
  · rw [World.cell?_of_block (w := W) hb2]; exact h.c1
  · have hput : ∀ j, (S.put k x).since j = if j = k then S.since k ++ [x] else S.since j := fun _ => rfl
    refine ⟨⟨h.ok.n1, h.ok.n2, fun j hj => ?_, h.ok.left, fun j => ?_⟩, hb2.trans h.blk, ?_, ?_, by show m + 1 ≤ S.cnt + 1; omega, fun j hj => ?_, fun j j' hj hj' he => ?_, fun j hj => ?_, .inl h.fb, .inl h.fm, .inl h.fc, fun j hj => ?_, fun j hj => ?_⟩
    · have hj' : S.med.length ≤ j := hj
      rw [hput, if_neg (by omega)]; exact h.ok.out j hj
    · have := h.ok.cnts j
      rw [hput]
      show _ ≤ S.cnt + 1
      split
      · simp; omega
      · omega
    · exact h.med.same ((hsame2 mb (Nat.lt_of_lt_of_le h.med.lt hz1) h.cmb.symm).trans (hsame mb h.med.lt fun e => (h.apart k e).symm))
    · refine hmap2.congr fun j hj => ?_
      unfold hdOf
      by_cases e : j = (k : Int)
      · subst e
        simp [hput]
      · simp only [if_neg e]
        by_cases e2 : j < 0
        · simp [e2]
        · have e3 : ¬ j.toNat = k := by omega
          simp [hput, e3]
    · rw [hput] at hj ⊢
      by_cases e : j = k
      · subst e
        simp only [if_true]
        exact hrow.same (hsame2 g hrow.lt hgcb)
      · simp only [if_neg e] at hj ⊢
        have hv := h.vers j hj
        exact hv.same ((hsame2 _ (Nat.lt_of_lt_of_le hv.lt hz1) (h.cv j hj).symm).trans (hsame _ hv.lt fun e1 e2 => e (h.inj j k hj e1 e2)))
    · rw [hput] at hj hj'
      by_cases e : j = k
      · by_cases e' : j' = k
        · omega
        · simp only [if_neg e'] at hj' he
          simp only [if_pos e] at he
          exact absurd he.symm (hgne j' hj' e')
      · simp only [if_neg e] at hj he
        by_cases e' : j' = k
        · simp only [if_pos e'] at he
          exact absurd he (hgne j hj e)
        · simp only [if_neg e'] at hj' he
          exact h.inj j j' hj hj' he
    · rw [hput] at hj
      by_cases e : j = k
      · simp only [if_pos e]; exact hgmb
      · simp only [if_neg e] at hj ⊢
        exact h.apart j hj
    · rw [hput] at hj
      by_cases e : j = k
      · simp only [if_pos e]; exact .inr trivial
      · simp only [if_neg e] at hj ⊢
        exact .inl (h.fv j hj)
    · rw [mapTurned_size ht2]
      rcases hj with hj | rfl
      · exact Nat.lt_of_lt_of_le (h.lt j hj) hz1
      · exact hrow.lt
  · intro j hj
    rcases hj with hj | rfl
    · exact .inl hj
    · rcases hgl with ⟨e1, e2⟩ | e1
      · left; rw [e2]; exact h.fv k e1
      · right; omega
end Go.Proofs.YtlhnmcopioeboaaGreat

/- Write: the walk. -/
namespace Go.Proofs.YtlhnmcopioeboaaGreat
set_option maxRecDepth 100000
open Go.RowKit Go.Maps

theorem run_one (W : World) (x : Sec) (hx : x.length = 64) :
    (Instr.buildSlice 84 1 #[(0, .agg (secCells x).toArray)]).run Tryz.prog W = .ok (.slice (some ⟨W.heap.size, 0, none⟩) 1 1) (W.alloc (.cells (secCells x).toArray 111)) := by
  obtain ⟨i, z, hi, hz, hs, hb, hzs⟩ := info_sec
  refine run_buildSlice W 84 111 1 _ _ i z Tryz.underlying84 hi hz (by rw [hs]; omega) (by rw [hs]; omega) ?_
  rw [hs]
  have := Great.fill_whole (s := 64) (by decide) [.agg (secCells x).toArray] ((Array.range (1 * 64)).map (z.cells[· % z.cells.size]!)) (fun v hv => by
    rw [List.mem_singleton.1 hv]; simp [Value.cells, secCells_len, hx]) (by simp)
  simpa [Value.cells] using this
theorem fold_set (cs : List Value) : ∀ (k : Nat) (init : Array Value), k + cs.length = init.size → (List.foldl (fun (c : Array Value) (x : Value × Nat) => c.setIfInBounds x.snd x.fst) init (cs.zipIdx k)).toList = init.toList.take k ++ cs := by
  induction cs with
  | nil => intro k init h; simp at h ⊢; rw [h, List.take_of_length_le (by simp)]
  | cons v r ih =>
    intro k init h
    simp only [List.zipIdx_cons, List.foldl_cons]
    simp only [List.length_cons] at h
    rw [ih (k + 1) _ (by simp; omega)]
    rw [Array.toList_setIfInBounds]
    apply List.ext_getElem?
    intro j
    have hk : k < init.toList.length := by simp; omega
    rcases Nat.lt_trichotomy j k with hj | rfl | hj
    · rw [List.getElem?_append_left (by simp; omega), List.getElem?_take_of_lt (by omega), List.getElem?_set_ne (by omega), List.getElem?_append_left (by simp; omega), List.getElem?_take_of_lt hj]
    · rw [List.getElem?_append_left (by simp; omega), List.getElem?_take_of_lt (by omega), List.getElem?_set_self hk, List.getElem?_append_right (by simp; omega)]
      simp
      rw [Nat.min_eq_left (by simpa using Nat.le_of_lt hk)]
      simp
    · rw [List.getElem?_append_right (by simp; omega), List.getElem?_append_right (by simp; omega)]
      simp only [List.length_take, List.length_set]
      rw [Nat.min_eq_left (by omega), Nat.min_eq_left (by omega), show j - k = (j - (k + 1)) + 1 by omega, List.getElem?_cons_succ]
theorem fold_whole (cs : List Value) (init : Array Value) (h : cs.length = init.size) : List.foldl (fun (c : Array Value) (x : Value × Nat) => c.setIfInBounds x.snd x.fst) init cs.zipIdx = cs.toArray := by
  apply Array.ext'
  rw [fold_set cs 0 init (by omega)]
  simp
theorem there_new (W : World) (cs : Array Value) (t : TypeId) (n : Nat) (h : cs.size = n) : (W.alloc (.cells cs t)).there W.heap.size 0 n := fun j hj => by
  have hh := heap_alloc_new W (.cells cs t)
  refine ⟨?_, by unfold World.frozen?; simp only [hh]; simp⟩
  unfold World.cell?
  simp only [hh]
  simp
  omega
theorem sec_len (s : ByteArray) (h : s.size = 64) : s.data.toList.length = 64 := by rw [← h, Array.length_toList]; rfl
theorem size_u8 (w : World) : (Go.sizeOf 5).run Tryz.prog w = .ok 1 w := by kernel_rfl
theorem wpList_copy_ver {ops : Array Oper} {rest : List Oper} {o : Oper} {a : Act} {Q : Exit → Act → World → Prop} (w1 : World) (cs : Array Value) (hcs : cs.size = 64) (s : ByteArray) (hs : s.size = 64) (hgd : o.guard = none) (d x : Operand)
    (ho : o.op = .call { callee := .builtin .copy, args := #[d, x], argTypes := #[53, 9] }) (hd : a.eval d = .slice (some ⟨w1.heap.size, 0, none⟩) 64 64) (hx : a.eval x = .string s)
    (h : ∀ w2, Below w1.heap.size w1 w2 → w2.rangeAt w1.heap.size 0 (secCells s.data.toList) → w1.heap.size < w2.heap.size → wpList Tryz.prog ops Q rest (a.put o.dst (goInt 64)) w2) :
    wpList Tryz.prog ops Q (o :: rest) a (w1.alloc (.cells cs 111)) := by
  have ht := there_new w1 cs 111 64 hcs
  have hr := Go.run_copy_string (P := Tryz.prog) (w1.alloc (.cells cs 111)) 53 9 o.type 5 w1.heap.size 0 64 64 s Tryz.underlying53 size_u8 (by omega) (fun j hj => (ht j (by omega)).1) (fun j hj => (ht j (by omega)).2)
  rw [hs] at hr
  refine Lib.wpList_copy_run _ hgd d x _ _ ho _ _ hd hx hr (h _ ?_ ?_ ?_)
  · exact Lib.below_setCells _ (Nat.le_refl _) _ _ ((Below.refl _ w1).alloc (Nat.le_refl _) _)
  · exact World.rangeAt_setCells_same _ _ _ _ (by
      have : (s.data.toList.map fun x => Value.int .u8 (x.toNat : Int)).length = 64 := by rw [List.length_map]; exact sec_len s hs
      rw [this]; exact ht)
  · rw [(heap_setCells _ _ _ _).1]; simp

theorem step_append_runD {P : Program} {ops : Array Oper} {o : Oper} {a : Act} {w : World} {K : Act → World → Prop} {Q : Exit → Act → World → Prop} {E : Prop} (hg : o.guard = none) (s x : Operand) (t : TypeId)
    (hop : o.op = Op.call { callee := Callee.builtin Builtin.append, args := #[s, x], argTypes := #[t, t] }) (v xv : Value) (hs : a.eval s = v) (hx : a.eval x = xv) (r : Value) (w' : World)
    (hr : (Builtin.append_ #[t, t] o.type #[v, xv]).run P w = .ok r w') (hK : K (a.put o.dst r) w') : if Region.wanted o (yielded ops a.tmps) = true then Oper.wp P o a w K Q else E := by
  have hw : Region.wanted o (yielded ops a.tmps) = true := by simp [Region.wanted, hg]
  rw [if_pos hw]
  exact Lib.wp_append_run w s x t t hop v xv hs hx r w' hr hK
theorem Turn.range {fp : Nat → Prop} {w w' : World} (h : Turn fp w w') {g o : Nat} {cs : List Value} (hr : w.rangeAt g o cs) (hg : ¬ fp g) : w'.rangeAt g o cs := fun j v hv => by
  have h1 := hr j v hv
  rw [World.cell?_of_block (w := w) (h.block g (World.block_lt_of_cell? w _ h1) hg)]
  exact h1
theorem Did.turn {fp : Nat → Prop} {b : Nat} {S' : Dv} {w w' : World} (h : Did fp b S' w w') : Turn fp w w' := by
  obtain ⟨_, _, _, h⟩ := h
  exact h
theorem Did.pre {fp : Nat → Prop} {b : Nat} {S' : Dv} {a w w' : World} (t : Turn fp a w) (h : Did fp b S' w w') : Did fp b S' a w' := by
  obtain ⟨fp', h1, h2, h3⟩ := h
  exact ⟨fp', h1, fun k hk => (h2 k hk).imp id fun e => Nat.le_trans t.size e, t.trans h3 fun _ h => .inl h⟩
theorem range_new (W : World) (cs : List Value) (t : TypeId) : (W.alloc (.cells cs.toArray t)).rangeAt W.heap.size 0 cs := fun j v hv => by
  unfold World.cell?
  simp only [heap_alloc_new W (.cells cs.toArray t)]
  simpa using hv

set_option maxRecDepth 100000 in
set_option maxHeartbeats 1000000 in
theorem write_ok (b : Nat) (S : Dv) (fp : Nat → Prop) (k : Nat) (s : ByteArray) (w : World) (h : DevAt w b S fp) (hl : S.lost = false) (hk : k < S.med.length) (hs : s.size = 64) (hp : S.pass = true) (hc : S.cnt < 4294967296) :
    Calls Tryz.prog 34 #[.pointer (some ⟨b, 0, none⟩), .int .i64 (k : Int), .string s] w fun e w' => e = .returned (.int .i64 0) ∧ Did fp b (S.spent.put k s.data.toList) w w' := by
  have hR := reach_any b S fp k w h
  rw [show reachE S (k : Int) = 0 by unfold reachE; rw [hl]; simp; omega] at hR
  obtain ⟨mb, cb, m, hd, h⟩ := h
  have hP := pass_any b mb cb m hd S fp w h
  rw [hp] at hP
  have hs2 : ((s.size : Int) == 64) = true := by rw [hs]; rfl
  have hs3 : ((s.size : Int) != 64) = false := by rw [hs]; rfl
  have HS := Lib.hid hs
  have hfp := Lib.hid h.lt
  clear hs
  go_enter Tryz.func34, Tryz.ntmps34
  go_wp2_with fail
  refine hR.mono ?_
  rintro e w1 ⟨rfl, rfl⟩
  go_wp2_with fail
  refine hP.mono ?_
  rintro e w1 ⟨rfl, h1, t1, z1⟩
  have Z1 := Lib.hid z1
  clear hP hR z1
  go_wp2_with (first | (refine wpList_copy_ver w1 _ rfl s HS.out rfl _ _ rfl rfl rfl ?_; intro w2 b2 r2 z2))
  have h2 := h1.below b2
  have t2 : Turn fp w w2 := t1.trans (Turn.of_below (fp := fp) b2) fun _ h => .inl h
  have hvb : ¬ fp w1.heap.size := fun e => by have := hfp.out _ e; rw [← Z1.out] at this; omega
  generalize w1.heap.size = vb at *
  clear h1 b2 t1 Z1 h
  have hn2 := h2.ok.n2
  have hk2 : k < S.spent.med.length := hk
  have hx : s.data.toList.length = 64 := sec_len s HS.out
  have HX := Lib.hid hx
  have c1 := h2.c1
  have hA := (h2.below ((Below.refl _ w2).alloc (Nat.le_refl _) (.cells (secCells s.data.toList).toArray 111))).drew
  have tA : Turn fp w2 (w2.alloc (.cells (secCells s.data.toList).toArray 111)).drew := Turn.of_below ((Below.refl _ w2).alloc (Nat.le_refl _) _).drew
  have qA : (w2.alloc (.cells (secCells s.data.toList).toArray 111)).drew.rangeAt w2.heap.size 0 (secCells s.data.toList) := range_new w2 _ _
  have cA := hA.c1
  have rA := tA.range r2 hvb
  have hl1 := h2.drew.map.look (k : Int) (wfN k (by omega))
  have hl2 := hA.map.look (k : Int) (wfN k (by omega))
  have hu := Tryz.underlying111
  have hi : (Tryz.prog.info? 111).map (·.size) = some (secCells s.data.toList).length := by
    obtain ⟨i, z, hi, _, hs, _⟩ := info_sec
    rw [hi, secCells_len, HX.out, ← hs]; rfl
  have hlen : (secCells s.data.toList).length = 64 := by rw [secCells_len, HX.out]
  have HC := Lib.hid (fun ty => write_core hA k hk2 w2.heap.size s.data.toList HX.out qA hc ty)
  clear hx
  have HT := Lib.hid tA
  have HT2 := Lib.hid t2
  clear hA qA tA t2 h2
  generalize secCells s.data.toList = cs at *
  have hfold : ∀ init : Array Value, init.size = 64 → List.foldl (fun (c : Array Value) (x : Value × Nat) => c.setIfInBounds x.snd x.fst) init cs.zipIdx = cs.toArray := fun init hi => fold_whole cs init (by rw [hi]; exact hlen)
  generalize (hdOf S.spent hd (k : Int)).val = v0 at *
  go_region_held3 (fun w' => w'.cell? ⟨b, 1, none⟩ = some (.map (some cb)) ∧ w'.rangeAt vb 0 cs) (first | exact ⟨c1, r2⟩ | exact ⟨cA, rA⟩ | exact ⟨c3, r3⟩ | exact ⟨c4, r4⟩)
    (first | (obtain ⟨g, c, w3, w4, e1, e2, t3, c3, c4, hdid⟩ := HC.out 84; have r3 := t3.range rA hvb; have r4 := (Did.turn hdid).range rA hvb; have HD := Lib.hid hdid; clear hdid; refine step_append_runD rfl _ _ _ rfl _ _ rfl rfl _ _ e1 ?_))
  all_goals
    go_wp2
    go_ret
    exact ⟨rfl, Did.pre (HT2.out.trans HT.out fun _ h => .inl h) HD.out⟩
theorem spent_not {S : Dv} (h : S.pass = false) : S.spent = S := by
  unfold Dv.pass at h
  unfold Dv.spent
  cases S with | mk med since lost fused left cnt =>
  simp at h
  simp [h]
theorem write_no (b : Nat) (S : Dv) (fp : Nat → Prop) (k : Int) (s : ByteArray) (w : World) (h : DevAt w b S fp) (he : ¬ reachE S k = 0) :
    Calls Tryz.prog 34 #[.pointer (some ⟨b, 0, none⟩), .int .i64 k, .string s] w fun e w' => e = .returned (.int .i64 (reachE S k)) ∧ w = w' := by
  have hR := reach_any b S fp k w h
  clear h
  generalize reachE S k = x at *
  have he1 : (x == 0) = false := by simpa using he
  have he2 : (x != 0) = true := by simpa using he
  go_enter Tryz.func34, Tryz.ntmps34
  go_wp2_with fail
  refine hR.mono ?_
  rintro e w1 ⟨rfl, rfl⟩
  go_wp2
  go_ret
  exact ⟨rfl, rfl⟩
theorem write_len (b : Nat) (S : Dv) (fp : Nat → Prop) (k : Int) (s : ByteArray) (w : World) (h : DevAt w b S fp) (he : reachE S k = 0) (hs : ¬ s.size = 64) :
    Calls Tryz.prog 34 #[.pointer (some ⟨b, 0, none⟩), .int .i64 k, .string s] w fun e w' => e = .returned (.int .i64 1) ∧ w = w' := by
  have hR := reach_any b S fp k w h
  rw [he] at hR
  clear h he
  have hs2 : ((s.size : Int) == 64) = false := by simp; omega
  have hs3 : ((s.size : Int) != 64) = true := by simp; omega
  go_enter Tryz.func34, Tryz.ntmps34
  go_wp2_with fail
  refine hR.mono ?_
  rintro e w1 ⟨rfl, rfl⟩
  go_wp2
  go_ret
  exact ⟨rfl, rfl⟩
theorem write_fuse (b : Nat) (S : Dv) (fp : Nat → Prop) (k : Int) (s : ByteArray) (w : World) (h : DevAt w b S fp) (he : reachE S k = 0) (hs : s.size = 64) (hp : S.pass = false) :
    Calls Tryz.prog 34 #[.pointer (some ⟨b, 0, none⟩), .int .i64 k, .string s] w fun e w' => e = .returned (.int .i64 6) ∧ Did fp b S w w' := by
  have hR := reach_any b S fp k w h
  rw [he] at hR
  obtain ⟨mb, cb, m, hd, h⟩ := h
  have hP := pass_any b mb cb m hd S fp w h
  rw [hp, spent_not hp] at hP
  clear h he
  have hs2 : ((s.size : Int) == 64) = true := by rw [hs]; rfl
  have hs3 : ((s.size : Int) != 64) = false := by rw [hs]; rfl
  clear hs
  go_enter Tryz.func34, Tryz.ntmps34
  go_wp2_with fail
  refine hR.mono ?_
  rintro e w1 ⟨rfl, rfl⟩
  go_wp2_with fail
  refine hP.mono ?_
  rintro e w1 ⟨rfl, h1, t1, z1⟩
  have Z1 := Lib.hid z1
  clear z1
  go_wp2
  go_ret
  exact ⟨rfl, Did.of h1 t1⟩
theorem write_nil (k : Int) (s : ByteArray) (w : World) :
    Calls Tryz.prog 34 #[.pointer none, .int .i64 k, .string s] w fun e w' => e = .returned (.int .i64 6) ∧ w = w' := by
  go_enter Tryz.func34, Tryz.ntmps34
  go_wp2_with fail
  refine (reach_nil _ _).mono ?_
  rintro e w1 ⟨rfl, rfl⟩
  go_wp2
  go_ret
  exact ⟨rfl, rfl⟩
end Go.Proofs.YtlhnmcopioeboaaGreat

/- vdev's here, Right and put. -/
namespace Go.Proofs.YtlhnmcopioeboaaGreat
set_option maxRecDepth 100000
open Go.RowKit Go.Maps

def hereB (ds : Nat → Dv) (aw : Nat → Bool) (d : Nat) : Bool := !aw d && !(ds d).lost
/-- A box that holds a pool's devices. -/
structure BoxX (x : Px) (b : Nat) (w : World) : Prop where
  c0 : w.cell? ⟨b, 0, none⟩ = some (.slice x.ga x.gn x.gc)
  c1 : w.cell? ⟨b, 1, none⟩ = some (.int .i64 x.sc)
  c2 : w.cell? ⟨b, 2, none⟩ = some (.slice (some ⟨x.lb, 0, none⟩) x.n x.n)
  c3 : w.cell? ⟨b, 3, none⟩ = some (.slice (some ⟨x.ab, 0, none⟩) x.n x.n)
theorem RightM.devs {l : List (Int × Int)} {s : Int} (h : RightM l s) {n : Nat} (hn : devsL l s = (n : Int)) : 1 ≤ n ∧ n ≤ 32 := by
  have hr : rightL l s = true := rightM_iff.2 h
  unfold devsL at hn
  rw [hr, if_pos rfl] at hn
  have := h.bounds l.length (Nat.le_refl _)
  have h1 := h.pos
  have h4 := h.few
  omega

section
variable {X : Nat → Prop} {B : Nat} {w : World} {x : Px} {l : List (Int × Int)} {ds : Nat → Dv} {aw : Nat → Bool} {K : Nat} {P : World → Prop}
set_option maxHeartbeats 1000000 in
theorem here_any (h : StX X B w x l ds aw K P) (d : Nat) (hd : d < x.n) :
    Calls Tryz.prog 21 #[x.val, .int .i64 (d : Int)] w fun e w' => e = .returned (.bool (hereB ds aw d)) ∧ Below w.heap.size w w' := by
  obtain ⟨h1, h32⟩ := h.right.1.devs h.right.2
  have hb := boxed w (.cells #[.slice x.ga x.gn x.gc, .int .i64 x.sc, .slice (some ⟨x.lb, 0, none⟩) x.n x.n, .slice (some ⟨x.ab, 0, none⟩) x.n x.n] 31)
  have h' := h.below hb
  obtain ⟨b, f, cl, hdv⟩ := h'.at_ hd
  have ca := (h'.away hd).1
  have hL := lost_any b (ds d) f _ hdv
  have HB := Lib.hid hb
  unfold hereB
  generalize (ds d).lost = L at *
  generalize aw d = A at *
  clear h h' hdv hb
  unfold Px.val
  obtain ⟨ga, gn, gc, sc, lb, n, ab⟩ := x
  simp only at *
  cases A
  · go_enter Tryz.func21, Tryz.ntmps21
    go_wp2_with fail
    refine hL.mono ?_
    rintro e w1 ⟨rfl, rfl⟩
    go_wp2
    go_ret
    exact ⟨rfl, HB.out⟩
  · go_enter Tryz.func21, Tryz.ntmps21
    go_wp2
    go_ret
    exact ⟨rfl, HB.out⟩

/-- The closure of Right: of no device of ours. -/
theorem rpred_any (h : StX X B w x l ds aw K P) (i : Nat) (hi : i < x.n) (b b0 : Nat) (f : Nat → Prop) (hd : DevAt w b (ds i) f) (h1 : w.cell? ⟨b0, 1, none⟩ = some (.int .i64 x.sc)) :
    Calls Tryz.prog 42 #[.pointer (some ⟨b, 0, none⟩), .pointer (some ⟨b0, 0, none⟩)] w fun e w' => e = .returned (.bool false) ∧ Below w.heap.size w w' := by
  have hl := (h.good hi).len
  have HS := Lib.hid (fun n => quiet_same (secs_any b (ds i) f (w.drewN n) (hd.below (below_drewN (Below.refl _ _) n))))
  rw [hl] at HS
  have hs : (x.sc != x.sc) = false := by simp
  generalize x.sc = sc at *
  clear h hd hl
  go_enter Tryz.func42, Tryz.ntmps42
  go_wp2_with fail
  go_quiet ((go_at_call 43; exact HS.out _))
  go_wp2
  go_ret
  exact ⟨rfl, by with_reducible (first | exact Below.refl _ _ | exact (Below.refl _ _).drew | exact below_drewN (Below.refl _ _) _)⟩
end
end Go.Proofs.YtlhnmcopioeboaaGreat

/- Worlds that grew from a given one: a family for regions that draw their order. -/
namespace Go.Proofs.YtlhnmcopioeboaaGreat
set_option maxRecDepth 100000
open Go.RowKit

structure Ext (W : World) where
  v : World
  h : Below W.heap.size W v
theorem Ext.cell {W : World} (q : Ext W) {b i : Nat} {x : Value} (h : W.cell? ⟨b, i, none⟩ = some x) (hb : b < W.heap.size) : q.v.cell? ⟨b, i, none⟩ = some x := by
  rw [q.h.cell (p := ⟨b, i, none⟩) hb]; exact h
theorem Ext.some (W : World) : Nonempty (Ext W) := ⟨⟨W, Below.refl _ _⟩⟩
theorem Ext.calls {W : World} {f : FuncId} {args : Array Value} {x : Value} (h : ∀ w, Below W.heap.size W w → Calls Tryz.prog f args w fun e w' => e = .returned x ∧ Below w.heap.size w w') (q : Ext W) :
    Calls Tryz.prog f args q.v fun e w' => e = .returned x ∧ ∃ q' : Ext W, w' = q'.v :=
  (h q.v q.h).mono fun _ w' ⟨h1, h2⟩ => ⟨h1, ⟨w', next q.h h2⟩, rfl⟩
end Go.Proofs.YtlhnmcopioeboaaGreat
