/-
  The numbers of a measure: devices ahead of a group, what a group gives out, what a block takes.
-/
import Derived.Test.YthpifplflhhkiaaGb
namespace Go.Proofs.Ythpifplflhhkiaa
set_option maxRecDepth 100000
open Go.RowKit

/-- The devices of the first k groups. -/
def aheadL : List (Int × Int) → Nat → Int
  | _, 0 => 0
  | [], _ + 1 => 0
  | x :: r, k + 1 => x.2 + aheadL r k
theorem aheadL_zero (l : List (Int × Int)) : aheadL l 0 = 0 := by cases l <;> rfl
theorem aheadL_succ (l : List (Int × Int)) (k : Nat) (h : k < l.length) : aheadL l (k + 1) = aheadL l k + l[k].2 := by
  induction l generalizing k with
  | nil => exact absurd h (Nat.not_lt_zero _)
  | cons x r ih =>
    cases k with
    | zero => simp [aheadL, aheadL_zero]
    | succ k =>
      have := ih k (by simpa using h)
      rw [aheadL, this, aheadL]
      simp
      omega
/-- A right measure, in parts. -/
structure RightM (l : List (Int × Int)) (s : Int) : Prop where
  pos : 0 < l.length
  few : l.length ≤ 4
  s0 : 24 ≤ s
  s1 : s ≤ 4096
  all : ∀ i (h : i < l.length), okG l[i] = true
theorem rightM_iff {l : List (Int × Int)} {s : Int} : rightL l s = true ↔ RightM l s := by
  unfold rightL
  simp only [Bool.and_eq_true, decide_eq_true_eq, List.all_eq_true]
  constructor
  · rintro ⟨⟨⟨⟨h1, h2⟩, h3⟩, h4⟩, h5⟩
    exact ⟨h1, h2, h3, h4, fun i h => h5 _ (List.getElem_mem h)⟩
  · rintro ⟨h1, h2, h3, h4, h5⟩
    refine ⟨⟨⟨⟨h1, h2⟩, h3⟩, h4⟩, fun x hx => ?_⟩
    obtain ⟨j, hj, rfl⟩ := List.getElem_of_mem hx
    exact h5 j hj
theorem okG_cases {k d : Int} (h : okG (k, d) = true) : (k = 0 ∧ 1 ≤ d ∧ d ≤ 8) ∨ (k = 1 ∧ 3 ≤ d ∧ d ≤ 8) := by
  unfold okG at h
  dsimp only at h
  split at h
  · simp at h; exact .inl ⟨by assumption, h.1, h.2⟩
  · split at h
    · simp at h; exact .inr ⟨by assumption, h.1, h.2⟩
    · cases h
theorem okG_wide {x : Int × Int} (h : okG x = true) : 1 ≤ x.2 ∧ x.2 ≤ 8 := by
  obtain ⟨k, d⟩ := x
  rcases okG_cases h with ⟨_, h1, h2⟩ | ⟨_, h1, h2⟩
  · exact ⟨h1, h2⟩
  · exact ⟨by show 1 ≤ d; omega, h2⟩
theorem RightM.bounds {l : List (Int × Int)} {s : Int} (h : RightM l s) (k : Nat) (hk : k ≤ l.length) : (k : Int) ≤ aheadL l k ∧ aheadL l k ≤ 8 * k := by
  induction k with
  | zero => rw [aheadL_zero]; omega
  | succ k ih =>
    have := ih (by omega)
    have hw := okG_wide (h.all k (by omega))
    rw [aheadL_succ l k (by omega)]
    omega
theorem RightM.mono {l : List (Int × Int)} {s : Int} (h : RightM l s) {i k : Nat} (hik : i ≤ k) (hk : k ≤ l.length) : aheadL l i ≤ aheadL l k := by
  induction k with
  | zero => obtain rfl : i = 0 := by omega
            exact Int.le_refl _
  | succ k ih =>
    by_cases e : i = k + 1
    · subst e; exact Int.le_refl _
    · have := ih (by omega) (by omega)
      have hw := okG_wide (h.all k (by omega))
      rw [aheadL_succ l k (by omega)]
      omega

def hasL (l : List (Int × Int)) (s i : Int) : Bool := rightL l s && decide (0 ≤ i) && decide (i < l.length)
theorem hasL_iff {l : List (Int × Int)} {s i : Int} : hasL l s i = true ↔ RightM l s ∧ ∃ k : Nat, i = k ∧ k < l.length := by
  unfold hasL
  simp only [Bool.and_eq_true, decide_eq_true_eq, rightM_iff]
  constructor
  · rintro ⟨⟨h1, h2⟩, h3⟩
    exact ⟨h1, i.toNat, by omega, by omega⟩
  · rintro ⟨h1, k, rfl, h2⟩
    exact ⟨⟨h1, by omega⟩, by omega⟩
def devsL (l : List (Int × Int)) (s : Int) : Int := if rightL l s then aheadL l l.length else 0
def firstL (l : List (Int × Int)) (s i : Int) : Int := if hasL l s i then aheadL l i.toNat else 0
def gives (x : Int × Int) (s : Int) : Int := if x.1 = 1 then (s - 16) * x.2 else s - 16
def takesG (x : Int × Int) (z : Int) : Int := if x.1 = 0 then z else if z = 1 then 2 else if z = 2 then 4 else if z = 3 then (if x.2 = 3 then 6 else 4) else 6

/-- A group of a measure, in memory. -/
theorem Grps.at_ {w : World} {a : Option Addr} {n : Nat} {l : List (Int × Int)} (h : Grps w a n l) (i : Nat) (hi : i < n) :
    ∃ g o k d, a = some ⟨g, o, none⟩ ∧ (∃ h : i < l.length, l[i] = (k, d)) ∧ IsG w g (o + i * 2) (k, d) := by
  obtain ⟨_, h2, h3⟩ := h
  have hi' : i < l.length := by omega
  obtain ⟨g, o, ha, hx⟩ := h3 i hi'
  exact ⟨g, o, l[i].1, l[i].2, ha, ⟨hi', rfl⟩, hx⟩

set_option maxHeartbeats 1000000 in
theorem ahead_any (l : List (Int × Int)) (s : Int) (v : Value) (w : World) (h : Meas w v l s) (hr : RightM l s) (m : Nat) (hml : m ≤ l.length) (x : Int) (hx : aheadL l m = x) :
    Calls Try.prog 66 #[v, .int .i64 (m : Int)] w fun e w' => e = .returned (.int .i64 x) ∧ Below w.heap.size w w' := by
  obtain ⟨a, n, c, rfl, hg, s0, s1⟩ := h
  have HG := Lib.hid (hg.below (boxed w (.cells #[.slice a n c, .int .i64 s] 41)))
  have hmn : m ≤ n := by rw [← hg.2.1]; exact hml
  have hn4 : n ≤ 4 := by rw [← hg.2.1]; exact hr.few
  have HR := Lib.hid hr
  have HX := Lib.hid hx
  have HM := Lib.hid hml
  clear hg hr hx hml
  go_enter Try.func66, Try.ntmps66
  go_wp2_with fail
  go_loop [5, 8] (fun t i => ∃ (k : Nat) (y : Int), k ≤ m ∧ i = .int .i64 k ∧ t = .int .i64 y ∧ y = aheadL l k) (fun _ i => m - (intOf i).toNat)
  case atStart => exact ⟨0, 0, Nat.zero_le _, rfl, rfl, (aheadL_zero l).symm⟩
  case round =>
    obtain ⟨k, y, hk, rfl, rfl, hy⟩ := hrel
    by_cases hlt : k < m
    · obtain ⟨g, o, kk, d, rfl, hld, hG⟩ := HG.out.at_ k (by omega)
      obtain ⟨_, c0, c1, p0, p1, q0, q1⟩ := hG
      have hb := HR.out.bounds k (by have := HM.out; omega)
      have hb' := HR.out.bounds (k + 1) (by have := HM.out; omega)
      have hs : aheadL l (k + 1) = y + d := by
        obtain ⟨hk', e⟩ := hld
        rw [aheadL_succ l k hk', e, hy]
      have HS := Lib.hid hs
      have hy0 : 0 ≤ y ∧ y ≤ 40 := by omega
      have hd0 : 0 ≤ y + d ∧ y + d ≤ 40 := by omega
      clear hb hb' hs hy hld
      obtain ⟨y0, y1⟩ := hy0
      obtain ⟨z0, z1⟩ := hd0
      go_wp2
      go_round
      case rel => exact ⟨k + 1, y + d, by omega, by go_num, by go_num, HS.out.symm⟩
      case measure => simp [intOf]; omega
    · obtain rfl : k = m := by omega
      have HY := Lib.hid hy
      clear hy
      go_wp2
      go_ret
      exact ⟨by rw [← HX.out, ← HY.out]; rfl, boxed _ _⟩

set_option maxHeartbeats 1000000 in
theorem has_any (l : List (Int × Int)) (s : Int) (v : Value) (w : World) (h : Meas w v l s) (i : Int) (hi : -9223372036854775808 ≤ i ∧ i ≤ 9223372036854775807) (b : Bool) (hb : hasL l s i = b) :
    Calls Try.prog 55 #[v, .int .i64 i] w fun e w' => e = .returned (.bool b) ∧ Below w.heap.size w w' := by
  have HH := Lib.hid (h.below (boxed w (.cells (match v with | .agg x => x | _ => #[]) 41)))
  obtain ⟨a, n, c, rfl, hg, s0, s1⟩ := h
  dsimp only at HH
  obtain ⟨i0, i1⟩ := hi
  have hn := hg.2.1
  have hm := hg.1
  unfold maxLen at hm
  unfold hasL at hb
  rw [hn] at hb
  clear hg hn
  cases hr : rightL l s with
  | false =>
    rw [hr] at hb
    obtain rfl : false = b := by simpa using hb
    have HR := Lib.hid hr
    clear hr hb
    go_enter Try.func55, Try.ntmps55
    go_wp2_with fail
    refine (right_any l s _ _ HH.out false HR.out).mono ?_
    rintro e w1 ⟨rfl, b1⟩
    go_wp2
    go_ret
    exact ⟨rfl, next (boxed _ _) b1⟩
  | true =>
    rw [hr] at hb
    have HR := Lib.hid hr
    clear hr
    by_cases h0 : 0 ≤ i
    · by_cases h1 : i < n
      · obtain rfl : true = b := by rw [← hb]; simp [h0, h1]
        clear hb
        go_enter Try.func55, Try.ntmps55
        go_wp2_with fail
        refine (right_any l s _ _ HH.out true HR.out).mono ?_
        rintro e w1 ⟨rfl, b1⟩
        have hc0 := b1.cell (p := ⟨w.heap.size, 0, none⟩) (by simp)
        simp at hc0
        go_wp2
        go_ret
        exact ⟨rfl, next (boxed _ _) b1⟩
      · obtain rfl : false = b := by rw [← hb]; simp [h0, h1]
        clear hb
        go_enter Try.func55, Try.ntmps55
        go_wp2_with fail
        refine (right_any l s _ _ HH.out true HR.out).mono ?_
        rintro e w1 ⟨rfl, b1⟩
        have hc0 := b1.cell (p := ⟨w.heap.size, 0, none⟩) (by simp)
        simp at hc0
        go_wp2
        go_ret
        exact ⟨by simp [h1], next (boxed _ _) b1⟩
    · obtain rfl : false = b := by rw [← hb]; simp [h0]
      clear hb
      go_enter Try.func55, Try.ntmps55
      go_wp2_with fail
      refine (right_any l s _ _ HH.out true HR.out).mono ?_
      rintro e w1 ⟨rfl, b1⟩
      go_wp2
      go_ret
      exact ⟨rfl, next (boxed _ _) b1⟩
end Go.Proofs.Ythpifplflhhkiaa
