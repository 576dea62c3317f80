/-
  geom.Devs, First, Of, Sectors, Takes: what they answer.
  geom.Takes, and polderlaw05.awake: what they answer.
  A measure in a box: what stays while worlds grow.
  Columns: a list of them, in memory; a measure and a place in boxes.
  A block's columns of a Mirror: cols.ofMirror.
-/
import Derived.Test.YtiffkbmcikiioaaGreatY00
import Derived.Laws.AppendOwn
import Derived.Laws.OwnMore
import Derived.IntWalk

/- geom.Devs, First, Of, Sectors, Takes: what they answer. -/
namespace Go.Proofs.YtiffkbmcikiioaaGreat
set_option maxRecDepth 100000
open Go.RowKit

theorem devs_any (l : List (Int × Int)) (s : Int) (v : Value) (w : World) (h : Meas w v l s) (x : Int) (hx : devsL l s = x) :
    Calls Tryz.prog 55 #[v] w fun e w' => e = .returned (.int .i64 x) ∧ Below w.heap.size w w' := by
  have HH := Lib.hid (h.below (boxed w (.cells (match v with | .agg x => x | _ => #[]) 24)))
  obtain ⟨a, n, c, rfl, hg, s0, s1⟩ := h
  dsimp only at HH
  have hn := hg.2.1
  unfold devsL at hx
  clear hg
  cases hr : rightL l s with
  | false =>
    rw [hr] at hx
    obtain rfl : 0 = x := by simpa using hx
    have HR := Lib.hid hr
    clear hr hx
    go_enter Tryz.func55, Tryz.ntmps55
    go_wp2_with fail
    refine (right_any l s _ _ HH.out false HR.out).mono ?_
    rintro e w1 ⟨rfl, b1⟩
    go_wp2
    go_ret
    exact ⟨rfl, next (boxed _ _) b1⟩
  | true =>
    have HX : Hid (aheadL l n = x) := Lib.hid (by rw [hr, if_pos rfl, hn] at hx; exact hx)
    have HR := Lib.hid hr
    have HN := Lib.hid hn
    clear hr hx hn
    go_enter Tryz.func55, Tryz.ntmps55
    go_wp2_with fail
    refine (right_any l s _ _ HH.out true HR.out).mono ?_
    rintro e w1 ⟨rfl, b1⟩
    have hc0 := b1.cell (p := ⟨w.heap.size, 0, none⟩) (by simp)
    have hc1 := b1.cell (p := ⟨w.heap.size, 1, none⟩) (by simp)
    simp at hc0 hc1
    have HM := Lib.hid (HH.out.below b1)
    have B1 := Lib.hid (next (boxed _ _) b1)
    clear b1 HH
    go_wp2_with fail
    refine (ahead_any l s _ _ HM.out (rightM_iff.1 HR.out) n (by rw [HN.out]; exact Nat.le_refl _) x HX.out).mono ?_
    rintro e w2 ⟨rfl, b2⟩
    go_wp2
    go_ret
    exact ⟨rfl, next B1.out b2⟩

theorem first_any (l : List (Int × Int)) (s : Int) (v : Value) (w : World) (h : Meas w v l s) (i : Int) (hi : -9223372036854775808 ≤ i ∧ i ≤ 9223372036854775807) (x : Int) (hx : firstL l s i = x) :
    Calls Tryz.prog 106 #[v, .int .i64 i] w fun e w' => e = .returned (.int .i64 x) ∧ Below w.heap.size w w' := by
  have HH := Lib.hid (h.below (boxed w (.cells (match v with | .agg x => x | _ => #[]) 24)))
  obtain ⟨a, n, c, rfl, hg, s0, s1⟩ := h
  dsimp only at HH
  have HI := Lib.hid hi
  unfold firstL at hx
  clear hg hi
  cases hr : hasL l s i with
  | false =>
    rw [hr] at hx
    obtain rfl : 0 = x := by simpa using hx
    have HR := Lib.hid hr
    clear hr hx
    go_enter Tryz.func106, Tryz.ntmps106
    go_wp2_with fail
    refine (has_any l s _ _ HH.out i HI.out false HR.out).mono ?_
    rintro e w1 ⟨rfl, b1⟩
    go_wp2
    go_ret
    exact ⟨rfl, next (boxed _ _) b1⟩
  | true =>
    obtain ⟨hrm, k, rfl, hk⟩ := hasL_iff.1 hr
    have HX : Hid (aheadL l k = x) := Lib.hid (by rw [hr, if_pos rfl] at hx; exact hx)
    have HR := Lib.hid hr
    have HRM := Lib.hid hrm
    have HK := Lib.hid hk
    clear hr hx hk hrm
    go_enter Tryz.func106, Tryz.ntmps106
    go_wp2_with fail
    refine (has_any l s _ _ HH.out (k : Int) HI.out true HR.out).mono ?_
    rintro e w1 ⟨rfl, b1⟩
    have hc0 := b1.cell (p := ⟨w.heap.size, 0, none⟩) (by simp)
    have hc1 := b1.cell (p := ⟨w.heap.size, 1, none⟩) (by simp)
    simp at hc0 hc1
    have HM := Lib.hid (HH.out.below b1)
    have B1 := Lib.hid (next (boxed _ _) b1)
    clear b1 HH
    go_wp2_with fail
    refine (ahead_any l s _ _ HM.out HRM.out k (Nat.le_of_lt HK.out) x HX.out).mono ?_
    rintro e w2 ⟨rfl, b2⟩
    go_wp2
    go_ret
    exact ⟨rfl, next B1.out b2⟩

/-- A device's group and place. -/
def OwnOf (l : List (Int × Int)) (d : Int) (k : Nat) (j : Int) : Prop := ∃ h : k < l.length, 0 ≤ j ∧ j < l[k].2 ∧ aheadL l k + j = d

set_option maxHeartbeats 1000000 in
theorem sectors_none (l : List (Int × Int)) (s : Int) (v : Value) (w : World) (h : Meas w v l s) (i : Int) (hi : -9223372036854775808 ≤ i ∧ i ≤ 9223372036854775807) (hno : hasL l s i = false) :
    Calls Tryz.prog 77 #[v, .int .i64 i] w fun e w' => e = .returned (.int .i64 0) ∧ Below w.heap.size w w' := by
  have HH := Lib.hid (h.below (boxed w (.cells (match v with | .agg x => x | _ => #[]) 24)))
  obtain ⟨a, n, c, rfl, hg, s0, s1⟩ := h
  dsimp only at HH
  have HI := Lib.hid hi
  have HR := Lib.hid hno
  clear hg hi hno
  go_enter Tryz.func77, Tryz.ntmps77
  go_wp2_with fail
  refine (has_any l s _ _ HH.out i HI.out false HR.out).mono ?_
  rintro e w1 ⟨rfl, b1⟩
  go_wp2
  go_ret
  exact ⟨rfl, next (boxed _ _) b1⟩
set_option maxHeartbeats 1000000 in
theorem sectors_some (l : List (Int × Int)) (s : Int) (v : Value) (w : World) (h : Meas w v l s) (hr : RightM l s) (k : Nat) (hk : k < l.length) (x : Int) (hx : gives l[k] s = x) :
    Calls Tryz.prog 77 #[v, .int .i64 (k : Int)] w fun e w' => e = .returned (.int .i64 x) ∧ Below w.heap.size w w' := by
  have HH := Lib.hid (h.below (boxed w (.cells (match v with | .agg x => x | _ => #[]) 24)))
  obtain ⟨a, n, c, rfl, hg, s0, s1⟩ := h
  dsimp only at HH
  have HG := Lib.hid (hg.below (boxed w (.cells #[.slice a n c, .int .i64 s] 24)))
  have hn := hg.2.1
  have hn4 : n ≤ 4 := by rw [← hn]; exact hr.few
  have hkn : k < n := by rw [← hn]; exact hk
  have hi : -9223372036854775808 ≤ (k : Int) ∧ (k : Int) ≤ 9223372036854775807 := by omega
  have HI := Lib.hid hi
  have HHas : Hid (hasL l s (k : Int) = true) := Lib.hid (hasL_iff.2 ⟨hr, k, rfl, hk⟩)
  obtain ⟨kk, u, hG, hgk, hok⟩ : ∃ kk u, (∃ h : k < l.length, l[k] = (kk, u)) ∧ gives (kk, u) s = x ∧ okG (kk, u) = true := ⟨l[k].1, l[k].2, ⟨hk, rfl⟩, hx, hr.all k hk⟩
  have t0 := hr.s0
  have t1 := hr.s1
  have HL := Lib.hid hG
  clear hG hx hg hn hr hk hi
  go_enter Tryz.func77, Tryz.ntmps77
  go_wp2_with fail
  refine (has_any l s _ _ HH.out (k : Int) HI.out true HHas.out).mono ?_
  rintro e w1 ⟨rfl, b1⟩
  have hc0 := b1.cell (p := ⟨w.heap.size, 0, none⟩) (by simp)
  have hc1 := b1.cell (p := ⟨w.heap.size, 1, none⟩) (by simp)
  simp at hc0 hc1
  obtain ⟨g, o, k2, u2, rfl, hld, hGm⟩ := (HG.out.below b1).at_ k hkn
  obtain ⟨rfl, rfl⟩ : k2 = kk ∧ u2 = u := by
    obtain ⟨_, e1⟩ := HL.out
    obtain ⟨_, e2⟩ := hld
    rw [e1] at e2
    cases e2
    exact ⟨rfl, rfl⟩
  obtain ⟨hlt, c0, c1, p0, p1, q0, q1⟩ := hGm
  dsimp only at c0 c1 p0 p1 q0 q1
  have B1 := Lib.hid (next (boxed _ _) b1)
  clear b1 HH HG hld HL
  rcases okG_cases hok with ⟨rfl, u1, u8⟩ | ⟨rfl, u1, u8⟩
  · have HX : Hid (s - 16 = x) := Lib.hid (by rw [← hgk]; rfl)
    clear hgk hok
    go_wp2
    go_ret
    exact ⟨by rw [← HX.out]; rfl, next B1.out (boxed _ _)⟩
  · have HX : Hid ((s - 16) * u2 = x) := Lib.hid (by rw [← hgk]; rfl)
    clear hgk hok
    have hm0 : 0 ≤ (s - 16) * u2 := Int.mul_nonneg (by omega) (by omega)
    have hm1 : (s - 16) * u2 ≤ 32640 := by
      have : (s - 16) * u2 ≤ 4080 * 8 := Int.mul_le_mul (by omega) u8 (by omega) (by omega)
      omega
    go_wp2
    go_ret
    exact ⟨by rw [← HX.out]; rfl, next B1.out (boxed _ _)⟩
end Go.Proofs.YtiffkbmcikiioaaGreat

/- geom.Takes, and polderlaw05.awake: what they answer. -/
namespace Go.Proofs.YtiffkbmcikiioaaGreat
set_option maxRecDepth 100000
open Go.RowKit

def takesL (l : List (Int × Int)) (s i z : Int) : Int := if hasL l s i && decide (1 ≤ z) && decide (z ≤ 4) then takesG (l.getD i.toNat (0, 0)) z else 0

set_option maxHeartbeats 1000000 in
theorem takes_none (l : List (Int × Int)) (s : Int) (v : Value) (w : World) (h : Meas w v l s) (i z : Int) (hi : -9223372036854775808 ≤ i ∧ i ≤ 9223372036854775807) (hz : -9223372036854775808 ≤ z ∧ z ≤ 9223372036854775807)
    (hno : hasL l s i = false ∨ z < 1 ∨ 4 < z) :
    Calls Tryz.prog 76 #[v, .int .i64 i, .int .i64 z] w fun e w' => e = .returned (.int .i64 0) ∧ Below w.heap.size w w' := by
  have HH := Lib.hid (h.below (boxed w (.cells (match v with | .agg x => x | _ => #[]) 24)))
  obtain ⟨a, n, c, rfl, hg, s0, s1⟩ := h
  dsimp only at HH
  obtain ⟨z0, z1⟩ := hz
  have HI := Lib.hid hi
  clear hg hi
  cases hr : hasL l s i with
  | false =>
    have HR := Lib.hid hr
    clear hr hno
    go_enter Tryz.func76, Tryz.ntmps76
    go_wp2_with fail
    refine (has_any l s _ _ HH.out i HI.out false HR.out).mono ?_
    rintro e w1 ⟨rfl, b1⟩
    go_wp2
    go_ret
    exact ⟨rfl, next (boxed _ _) b1⟩
  | true =>
    have HR := Lib.hid hr
    rw [hr] at hno
    have hno' : z < 1 ∨ 4 < z := by simpa using hno
    clear hr hno
    by_cases h1 : z < 1
    · clear hno'
      go_enter Tryz.func76, Tryz.ntmps76
      go_wp2_with fail
      refine (has_any l s _ _ HH.out i HI.out true HR.out).mono ?_
      rintro e w1 ⟨rfl, b1⟩
      go_wp2
      go_ret
      exact ⟨rfl, next (boxed _ _) b1⟩
    · have h4 : 4 < z := by omega
      clear hno'
      go_enter Tryz.func76, Tryz.ntmps76
      go_wp2_with fail
      refine (has_any l s _ _ HH.out i HI.out true HR.out).mono ?_
      rintro e w1 ⟨rfl, b1⟩
      go_wp2
      go_ret
      exact ⟨rfl, next (boxed _ _) b1⟩
set_option maxHeartbeats 2000000 in
theorem takes_some (l : List (Int × Int)) (s : Int) (v : Value) (w : World) (h : Meas w v l s) (hr : RightM l s) (k : Nat) (hk : k < l.length) (z : Int) (z1 : 1 ≤ z) (z4 : z ≤ 4) (x : Int) (hx : takesG l[k] z = x) :
    Calls Tryz.prog 76 #[v, .int .i64 (k : Int), .int .i64 z] w fun e w' => e = .returned (.int .i64 x) ∧ Below w.heap.size w w' := by
  have HH := Lib.hid (h.below (boxed w (.cells (match v with | .agg x => x | _ => #[]) 24)))
  obtain ⟨a, n, c, rfl, hg, s0, s1⟩ := h
  dsimp only at HH
  have HG := Lib.hid (hg.below (boxed w (.cells #[.slice a n c, .int .i64 s] 24)))
  have hn := hg.2.1
  have hn4 : n ≤ 4 := by rw [← hn]; exact hr.few
  have hkn : k < n := by rw [← hn]; exact hk
  have hi : -9223372036854775808 ≤ (k : Int) ∧ (k : Int) ≤ 9223372036854775807 := by omega
  have HI := Lib.hid hi
  have HHas : Hid (hasL l s (k : Int) = true) := Lib.hid (hasL_iff.2 ⟨hr, k, rfl, hk⟩)
  obtain ⟨kk, u, hG, hgk, hok⟩ : ∃ kk u, (∃ h : k < l.length, l[k] = (kk, u)) ∧ takesG (kk, u) z = x ∧ okG (kk, u) = true := ⟨l[k].1, l[k].2, ⟨hk, rfl⟩, hx, hr.all k hk⟩
  have HL := Lib.hid hG
  clear hG hx hg hn hr hk hi
  go_enter Tryz.func76, Tryz.ntmps76
  go_wp2_with fail
  refine (has_any l s _ _ HH.out (k : Int) HI.out true HHas.out).mono ?_
  rintro e w1 ⟨rfl, b1⟩
  have hc0 := b1.cell (p := ⟨w.heap.size, 0, none⟩) (by simp)
  have hc1 := b1.cell (p := ⟨w.heap.size, 1, none⟩) (by simp)
  simp at hc0 hc1
  obtain ⟨g, o, k2, u2, rfl, hld, hGm⟩ := (HG.out.below b1).at_ k hkn
  obtain ⟨rfl, rfl⟩ : k2 = kk ∧ u2 = u := by
    obtain ⟨_, e1⟩ := HL.out
    obtain ⟨_, e2⟩ := hld
    rw [e1] at e2
    cases e2
    exact ⟨rfl, rfl⟩
  obtain ⟨hlt, c0, c1, p0, p1, q0, q1⟩ := hGm
  dsimp only at c0 c1 p0 p1 q0 q1
  have B1 := Lib.hid (next (boxed _ _) b1)
  clear b1 HH HG hld HL
  rcases okG_cases hok with ⟨rfl, u1, u8⟩ | ⟨rfl, u1, u8⟩
  · have HX : Hid (z = x) := Lib.hid (by rw [← hgk]; rfl)
    clear hgk hok
    go_wp2
    go_ret
    exact ⟨by rw [← HX.out]; rfl, next B1.out (boxed _ _)⟩
  · have hzz : z = 1 ∨ z = 2 ∨ z = 3 ∨ z = 4 := by omega
    have huu : u2 = 3 ∨ u2 = 4 ∨ u2 = 5 ∨ u2 = 6 ∨ u2 = 7 ∨ u2 = 8 := by omega
    have HX := Lib.hid hgk
    clear hgk hok z1 z4 u1 u8 p0 p1 q0 q1
    rcases hzz with rfl | rfl | rfl | rfl <;> rcases huu with rfl | rfl | rfl | rfl | rfl | rfl <;>
      (go_wp2; go_ret; exact ⟨by rw [← HX.out]; rfl, next B1.out (boxed _ _)⟩)
end Go.Proofs.YtiffkbmcikiioaaGreat

/- A measure in a box: what stays while worlds grow. -/
namespace Go.Proofs.YtiffkbmcikiioaaGreat
set_option maxRecDepth 100000
open Go.RowKit

/-- A measure boxed in block b, in a world that grew from w0. -/
structure Held (w0 w : World) (b : Nat) (a : Option Addr) (n c : Nat) (s : Int) (l : List (Int × Int)) : Prop where
  c0 : w.cell? ⟨b, 0, none⟩ = some (.slice a n c)
  c1 : w.cell? ⟨b, 1, none⟩ = some (.int .i64 s)
  lt : b < w.heap.size
  m : Meas w (.agg #[.slice a n c, .int .i64 s]) l s
  below : Below w0.heap.size w0 w
theorem Held.next {w0 w w' : World} {b : Nat} {a : Option Addr} {n c : Nat} {s : Int} {l : List (Int × Int)} (h : Held w0 w b a n c s l) (k : Below w.heap.size w w') : Held w0 w' b a n c s l :=
  ⟨by rw [k.cell (p := ⟨b, 0, none⟩) h.lt]; exact h.c0, by rw [k.cell (p := ⟨b, 1, none⟩) h.lt]; exact h.c1, Nat.lt_of_lt_of_le h.lt k.size, h.m.below k, Proofs.YtiffkbmcikiioaaGreat.next h.below k⟩
theorem Held.start {w : World} {a : Option Addr} {n c : Nat} {s : Int} {l : List (Int × Int)} (h : Meas w (.agg #[.slice a n c, .int .i64 s]) l s) :
    Held w (w.alloc (.cells #[.slice a n c, .int .i64 s] 24)) w.heap.size a n c s l :=
  ⟨by simp, by simp, by simp, h.below (boxed _ _), boxed _ _⟩
theorem Held.len {w0 w : World} {b : Nat} {a : Option Addr} {n c : Nat} {s : Int} {l : List (Int × Int)} (h : Held w0 w b a n c s l) : l.length = n ∧ n ≤ 9223372036854775807 := by
  obtain ⟨a', n', c', hv, hg, _⟩ := h.m
  cases hv
  exact ⟨hg.2.1, by have := hg.1; unfold maxLen at this; omega⟩
/-- One of its groups. -/
theorem Held.at_ {w0 w : World} {b : Nat} {a : Option Addr} {n c : Nat} {s : Int} {l : List (Int × Int)} (h : Held w0 w b a n c s l) {k : Nat} (hk : k < l.length) {x : Int × Int} (hx : l[k] = x) :
    ∃ g o, a = some ⟨g, o, none⟩ ∧ g < w.heap.size ∧ w.cell? ⟨g, o + k * 2, none⟩ = some (.int .i64 x.1) ∧ w.cell? ⟨g, o + k * 2 + 1, none⟩ = some (.int .i64 x.2) := by
  obtain ⟨a', n', c', hv, hg, _⟩ := h.m
  cases hv
  obtain ⟨g, o, ha, hG⟩ := hg.2.2 k hk
  subst hx
  exact ⟨g, o, ha, hG.lt, hG.c0, hG.c1⟩
end Go.Proofs.YtiffkbmcikiioaaGreat

/- Columns: a list of them, in memory; a measure and a place in boxes. -/
namespace Go.Proofs.YtiffkbmcikiioaaGreat
set_option maxRecDepth 100000
open Go.RowKit

/-- A column. -/
structure C where
  dev : Int
  at_ : Int
  par : Bool
  row : Int
theorem C.ext' {a b : C} (h1 : a.dev = b.dev) (h2 : a.at_ = b.at_) (h3 : a.par = b.par) (h4 : a.row = b.row) : a = b := by
  cases a; cases b; simp at h1 h2 h3 h4; subst h1 h2 h3 h4; rfl
def C.cells (c : C) : List Value := [.int .i64 c.dev, .int .i64 c.at_, .bool c.par, .int .i64 c.row]
def C.val (c : C) : Value := .agg #[.int .i64 c.dev, .int .i64 c.at_, .bool c.par, .int .i64 c.row]
def flatC (l : List C) : List Value := l.flatMap C.cells
theorem flatC_len (l : List C) : (flatC l).length = l.length * 4 := by
  induction l with
  | nil => rfl
  | cons c r ih => simp only [flatC, List.flatMap_cons, List.length_append, List.length_cons] at ih ⊢; rw [ih]; simp [C.cells]; omega
theorem flatC_app (l m : List C) : flatC (l ++ m) = flatC l ++ flatC m := by simp [flatC]
theorem flatC_at (l : List C) (i : Nat) (hi : i < l.length) (j : Nat) (hj : j < 4) : (flatC l)[i * 4 + j]? = (C.cells l[i])[j]? := by
  induction l generalizing i with
  | nil => simp at hi
  | cons s r ih =>
    cases i with
    | zero =>
      simp only [flatC, List.flatMap_cons, List.getElem_cons_zero, Nat.zero_mul, Nat.zero_add]
      rw [List.getElem?_append_left (by simp [C.cells]; omega)]
    | succ i =>
      simp only [flatC, List.flatMap_cons, List.getElem_cons_succ]
      rw [List.getElem?_append_right (by simp [C.cells]; omega), show (C.cells s).length = 4 from rfl, show (i + 1) * 4 + j - 4 = i * 4 + j by omega]
      exact ih i (by simpa using hi)
theorem flatC_one (l : List C) : ∀ v ∈ flatC l, v.oneCell' = true := by
  intro v hv
  obtain ⟨s, _, h⟩ := List.mem_flatMap.1 hv
  simp [C.cells] at h
  rcases h with rfl | rfl | rfl | rfl <;> rfl

/-- A column's four cells. -/
structure IsC (w : World) (g o : Nat) (c : C) : Prop where
  c0 : w.cell? ⟨g, o, none⟩ = some (.int .i64 c.dev)
  c1 : w.cell? ⟨g, o + 1, none⟩ = some (.int .i64 c.at_)
  c2 : w.cell? ⟨g, o + 2, none⟩ = some (.bool c.par)
  c3 : w.cell? ⟨g, o + 3, none⟩ = some (.int .i64 c.row)
theorem IsC.of {w : World} {g o : Nat} {c : C} (h : ∀ j, j < 4 → w.cell? ⟨g, o + j, none⟩ = (C.cells c)[j]?) : IsC w g o c :=
  ⟨h 0 (by omega), h 1 (by omega), h 2 (by omega), h 3 (by omega)⟩
theorem IsC.get {w : World} {g o : Nat} {c : C} (h : IsC w g o c) (j : Nat) (hj : j < 4) : w.cell? ⟨g, o + j, none⟩ = (C.cells c)[j]? := by
  match j, hj with
  | 0, _ => exact h.c0
  | 1, _ => exact h.c1
  | 2, _ => exact h.c2
  | 3, _ => exact h.c3
theorem IsC.below {w w' : World} {B g o : Nat} {c : C} (h : IsC w g o c) (hg : g < B) (hb : Below B w w') : IsC w' g o c :=
  IsC.of fun j hj => by rw [hb.cell (p := ⟨g, o + j, none⟩) hg]; exact h.get j hj

/-- Columns in block g. -/
structure ColsAt (w : World) (g : Nat) (l : List C) : Prop where
  lt : g < w.heap.size
  at_ : ∀ j (h : j < l.length), IsC w g (j * 4) l[j]
theorem ColsAt.next {w w' : World} {g : Nat} {l : List C} (h : ColsAt w g l) (k : Below w.heap.size w w') : ColsAt w' g l :=
  ⟨Nat.lt_of_lt_of_le h.lt k.size, fun j hj => (h.at_ j hj).below h.lt k⟩

/-- The slice v is the call's own, from block B on, and it is the columns l. -/
def OwnC (B : Nat) (w : World) (v : Value) (l : List C) : Prop := w.ownsRow B 75 4 v l.length (flatC l)
theorem OwnC.nil (B : Nat) (w : World) : OwnC B w (.slice none 0 0) [] := World.ownsRow_nil _ _ _ _
theorem OwnC.below {w w' : World} {B : Nat} {v : Value} {l : List C} (h : OwnC B w v l) (hb : Below w.heap.size w w') : OwnC B w' v l := by
  refine ⟨h.1, ?_⟩
  rcases h.2 with hn | ⟨g, cap, cur, rfl, hB, hg, rest⟩
  · exact .inl hn
  · exact .inr ⟨g, cap, cur, rfl, hB, by rw [hb.block g (Array.getElem?_eq_some_iff.1 hg).1]; exact hg, rest⟩
theorem OwnC.lower {w : World} {B B' : Nat} {v : Value} {l : List C} (h : OwnC B w v l) (hB : B' ≤ B) : OwnC B' w v l := by
  refine ⟨h.1, ?_⟩
  rcases h.2 with hn | ⟨g, cap, cur, rfl, hB', hg, rest⟩
  · exact .inl hn
  · exact .inr ⟨g, cap, cur, rfl, Nat.le_trans hB hB', hg, rest⟩
/-- Where an own slice lies. -/
theorem OwnC.some {w : World} {B : Nat} {v : Value} {l : List C} (h : OwnC B w v l) (hl : 0 < l.length) :
    ∃ g c, v = .slice (some ⟨g, 0, none⟩) l.length c ∧ l.length ≤ c ∧ B ≤ g ∧ ColsAt w g l := by
  have hcells := fun g hg => World.ownsRow.cells (g := g) h hg
  rcases h.2 with ⟨_, h0⟩ | ⟨g, cap, cur, rfl, hB, hb, hnc, _⟩
  · omega
  · refine ⟨g, cap, rfl, hnc, hB, (Array.getElem?_eq_some_iff.1 hb).1, fun j hj => IsC.of fun i hi => ?_⟩
    have hx := flatC_at l j hj i hi
    have hlt : i < (C.cells l[j]).length := hi
    rw [List.getElem?_eq_getElem hlt] at hx ⊢
    have e := hcells g rfl (j * 4 + i) _ hx
    rwa [Go.WideShapes.add_plain, Nat.zero_add] at e
theorem OwnC.none {w : World} {B : Nat} {v : Value} {l : List C} (h : OwnC B w v l) : ∃ a c, v = .slice a l.length c := by
  rcases h.2 with ⟨rfl, h0⟩ | ⟨g, cap, cur, rfl, hB, hb, hnc, _⟩
  · exact ⟨_, _, by rw [h0]⟩
  · exact ⟨_, _, rfl⟩

theorem info_col : ∃ i, Tryz.prog.info? 75 = some i ∧ i.zero = some (.agg #[.int .i64 0, .int .i64 0, .bool false, .int .i64 0]) ∧ i.size = 4 ∧ i.bytes = 32 := info_parts (by kernel_rfl)

/-- append(v, c). -/
theorem wpList_append_col {ops : Array Oper} {rest : List Oper} {o : Oper} {a : Act} {Q : Exit → Act → World → Prop} (w : World) (hgd : o.guard = none) (s x : Operand)
    (ho : o.op = .call { callee := .builtin .append, args := #[s, x], argTypes := #[66, 66] }) (B : Nat) (v : Value) (l : List C) (c : C) (g c' : Nat) (hs : a.eval s = v) (hx : a.eval x = .slice (some ⟨g, 0, none⟩) 1 c')
    (hv : OwnC B w v l) (hc : IsC w g 0 c) (hB : B ≤ w.heap.size) (hN : l.length ≤ 100000)
    (h : ∀ v' w', OwnC B w' v' (l ++ [c]) → Below B w w' → w.heap.size ≤ w'.heap.size → wpList Tryz.prog ops Q rest (a.put o.dst v') w') : wpList Tryz.prog ops Q (o :: rest) a w := by
  obtain ⟨i, hi, hz, hsz, hb⟩ := info_col
  refine wpList_append_own_at w hgd s x _ ho B 75 i _ 4 32 Tryz.underlying66 hi hz hsz hb rfl (by decide) v l.length (flatC l) hs hv ⟨g, 0, none⟩ 1 c' (C.cells c) hx rfl (fun j u hj => ?_) (fun u hu => ?_) (by unfold maxLen; omega) (by omega) hB fun v' w' h1 h2 _ _ => ?_
  · have hlt : j < 4 := (List.getElem?_eq_some_iff.1 hj).1
    rw [Go.WideShapes.add_plain, ← hj]
    exact hc.get j hlt
  · exact flatC_one [c] u (by simpa [flatC] using hu)
  · refine h v' w' ?_ ((Below.refl B w).grown h2 hB fun k hk => (World.ownsRow.lt hv k hk).1) h2.size
    unfold OwnC
    rw [List.length_append, flatC_app]
    have e : flatC [c] = C.cells c := by simp [flatC]
    rw [e]
    exact h1

/-- A measure boxed in block b, and a place in block p, in a world that grew from w0. -/
structure HeldP (w0 w : World) (b p : Nat) (a : Option Addr) (n c : Nat) (s : Int) (l : List (Int × Int)) (k t : Int) : Prop where
  h : Held w0 w b a n c s l
  p0 : w.cell? ⟨p, 0, none⟩ = some (.int .i64 k)
  p1 : w.cell? ⟨p, 1, none⟩ = some (.int .i64 t)
  plt : p < w.heap.size
theorem HeldP.next {w0 w w' : World} {b p : Nat} {a : Option Addr} {n c : Nat} {s : Int} {l : List (Int × Int)} {k t : Int} (h : HeldP w0 w b p a n c s l k t) (kb : Below w.heap.size w w') : HeldP w0 w' b p a n c s l k t :=
  ⟨h.h.next kb, by rw [kb.cell (p := ⟨p, 0, none⟩) h.plt]; exact h.p0, by rw [kb.cell (p := ⟨p, 1, none⟩) h.plt]; exact h.p1, Nat.lt_of_lt_of_le h.plt kb.size⟩
theorem HeldP.start {w : World} {a : Option Addr} {n c : Nat} {s : Int} {l : List (Int × Int)} (k t : Int) (h : Meas w (.agg #[.slice a n c, .int .i64 s]) l s) :
    HeldP w ((w.alloc (.cells #[.slice a n c, .int .i64 s] 24)).alloc (.cells #[.int .i64 k, .int .i64 t] 26)) w.heap.size (w.heap.size + 1) a n c s l k t :=
  ⟨(Held.start h).next (boxed _ _), by simp, by simp, by simp⟩
end Go.Proofs.YtiffkbmcikiioaaGreat

/- A block's columns of a Mirror: cols.ofMirror. -/
namespace Go.Proofs.YtiffkbmcikiioaaGreat
set_option maxRecDepth 100000
open Go.RowKit

def mirRow (f t : Int) (d z : Nat) : List C := (List.range z).map fun i : Nat => ⟨f + d, 16 + t + i, false, i⟩
def mirL (f t : Int) (u z : Nat) : List C := (List.range u).flatMap fun d => mirRow f t d z
theorem mirRow_succ (f t : Int) (d z : Nat) : mirRow f t d (z + 1) = mirRow f t d z ++ [⟨f + d, 16 + t + z, false, z⟩] := by
  simp [mirRow, List.range_succ]
theorem mirL_succ (f t : Int) (u z : Nat) : mirL f t (u + 1) z = mirL f t u z ++ mirRow f t u z := by
  simp [mirL, List.range_succ]
theorem mirRow_len (f t : Int) (d z : Nat) : (mirRow f t d z).length = z := by simp [mirRow]
theorem mirL_len (f t : Int) (u z : Nat) : (mirL f t u z).length = u * z := by
  induction u with
  | zero => simp [mirL]
  | succ u ih => rw [mirL_succ, List.length_append, ih, mirRow_len, Nat.add_mul, Nat.one_mul]

set_option maxHeartbeats 2000000 in
theorem mirror_any (l : List (Int × Int)) (s : Int) (v : Value) (w : World) (h : Meas w v l s) (hr : RightM l s) (k : Nat) (hk : k < l.length) (u : Nat) (hu : l[k] = (0, (u : Int))) (t : Int) (t0 : 0 ≤ t) (t1 : t ≤ 4096) (z : Nat) (z4 : z ≤ 4) :
    Calls Tryz.prog 78 #[v, .agg #[.int .i64 (k : Int), .int .i64 t], .int .i64 (z : Int)] w fun e w' => ∃ v', e = .returned v' ∧ OwnC w.heap.size w' v' (mirL (aheadL l k) t u z) ∧ Below w.heap.size w w' := by
  obtain ⟨a, n, c, rfl, hg⟩ := id h
  have hn := hg.1.2.1
  have hn4 : n ≤ 4 := by rw [← hn]; exact hr.few
  have hkn : k < n := by rw [← hn]; exact hk
  obtain ⟨uu1, uu8⟩ : 1 ≤ (u : Int) ∧ (u : Int) ≤ 8 := by have := okG_wide (hr.all k hk); rw [hu] at this; exact this
  have u8' : u ≤ 8 := by omega
  obtain ⟨f, hf⟩ : ∃ f, aheadL l k = f := ⟨_, rfl⟩
  have hfb := hr.bounds k (Nat.le_of_lt hk)
  rw [hf] at hfb ⊢
  have f0 : 0 ≤ f := by omega
  have f1 : f ≤ 32 := by omega
  have K1 := Lib.hid (HeldP.start (k : Int) t h)
  have HR := Lib.hid hr
  have HL : Hid (∃ hk : k < l.length, l[k] = (0, (u : Int))) := Lib.hid ⟨hk, hu⟩
  have HF : Hid (firstL l s (k : Int) = f) := Lib.hid (by unfold firstL; rw [hasL_iff.2 ⟨hr, k, rfl, hk⟩, if_pos rfl, ← hf]; simp)
  have HI : Hid (-9223372036854775808 ≤ (k : Int) ∧ (k : Int) ≤ 9223372036854775807) := Lib.hid (by omega)
  clear h hg hr hn hf hfb hu hk
  go_enter Tryz.func78, Tryz.ntmps78
  go_wp2_with fail
  refine (first_any l s _ _ K1.out.h.m (k : Int) HI.out f HF.out).mono ?_
  rintro e w1 ⟨rfl, b1⟩
  have K2 := Lib.hid (K1.out.next b1)
  have hW : w.heap.size ≤ w1.heap.size := K2.out.h.below.size
  clear K1 b1
  have c0 := K2.out.h.c0
  have p0 := K2.out.p0
  obtain ⟨g, o, rfl, hlt, e0, e1⟩ := K2.out.h.at_ HL.out.1 HL.out.2
  dsimp only at e0 e1
  go_wp2_with fail
  clear e0
  go_loopw [8, 22] (fun t8 i wr => ∃ d : Nat, d ≤ u ∧ i = .int .i64 (d : Int) ∧ Hid (OwnC w1.heap.size wr t8 (mirL f t d z)) ∧ Hid (Below w1.heap.size w1 wr)) (fun _ i _ => u - (intOf i).toNat)
  case atStart => exact ⟨0, Nat.zero_le _, rfl, Lib.hid (OwnC.nil _ _), Lib.hid (Below.refl _ _)⟩
  case round =>
    obtain ⟨d, hd, rfl, HO, HB⟩ := hrel
    by_cases hdu : d < u
    · go_wp2_with fail
      go_loopw [8, 26] (fun t8 i wr => ∃ j : Nat, j ≤ z ∧ i = .int .i64 (j : Int) ∧ Hid (OwnC w1.heap.size wr t8 (mirL f t d z ++ mirRow f t d j)) ∧ Hid (Below w1.heap.size w1 wr)) (fun _ i _ => z - (intOf i).toNat)
      case atStart => exact ⟨0, Nat.zero_le _, rfl, Lib.hid (by simpa [mirRow] using HO.out), HB⟩
      case round =>
        obtain ⟨j, hj, rfl, HO2, HB2⟩ := hrel
        have K3 := Lib.hid (K2.out.next HB2.out)
        have q1 := K3.out.p1
        by_cases hjz : j < z
        · have hsz := HB2.out.size
          have hlen : Hid ((mirL f t d z ++ mirRow f t d j).length ≤ 100000) := Lib.hid (by
            rw [List.length_append, mirL_len, mirRow_len]
            have : d * z ≤ 8 * 4 := Nat.mul_le_mul (by omega) z4
            omega)
          go_wp2_with (first | (at_builtin; refine wpList_append_col _ rfl _ _ rfl w1.heap.size _ _ ⟨f + d, 16 + t + j, false, j⟩ wr.heap.size 1 rfl rfl (HO2.out.below (boxed _ _)) ⟨by simp, by simp, by simp, by simp⟩ (by simp; omega) hlen.out ?_; intro v3 w3 hown3 hb3 hs3))
          go_roundw
          case rel =>
            refine ⟨j + 1, by omega, by go_num, Lib.hid ?_, Lib.hid ((HB2.out.alloc hsz _).trans hb3)⟩
            rw [mirRow_succ, ← List.append_assoc]
            exact hown3
          case measure => simp [intOf]; omega
        · obtain rfl : j = z := by omega
          go_wp2
          go_roundw
          case rel => exact ⟨d + 1, by omega, by go_num, Lib.hid (by rw [mirL_succ]; exact HO2.out), HB2⟩
          case measure => simp [intOf]; omega
    · obtain rfl : d = u := by omega
      go_wp2
      go_ret
      exact ⟨_, rfl, HO.out.lower hW, next K2.out.h.below HB.out⟩
end Go.Proofs.YtiffkbmcikiioaaGreat
