/-
  geom.Right: what it answers.
-/
import Derived.Test.YthpifplflhhkiaaGa
namespace Go.Proofs.Ythpifplflhhkiaa
set_option maxRecDepth 100000
open Go.RowKit

/-- Is a group right? -/
def okG (p : Int × Int) : Bool := if p.1 = 0 then decide (1 ≤ p.2) && decide (p.2 ≤ 8) else if p.1 = 1 then decide (3 ≤ p.2) && decide (p.2 ≤ 8) else false
/-- Is a measure right? -/
def rightL (l : List (Int × Int)) (s : Int) : Bool := decide (0 < l.length) && decide (l.length ≤ 4) && decide (24 ≤ s) && decide (s ≤ 4096) && l.all okG

theorem pred_any (k d : Int) (w : World) (hk : -9223372036854775808 ≤ k ∧ k ≤ 9223372036854775807) (hd : -9223372036854775808 ≤ d ∧ d ≤ 9223372036854775807) (b : Bool) (hb : okG (k, d) = b) :
    Calls Try.prog 68 #[.agg #[.int .i64 k, .int .i64 d]] w fun e w' => e = .returned (.bool (!b)) ∧ Below w.heap.size w w' := by
  obtain ⟨k0, k1⟩ := hk
  obtain ⟨d0, d1⟩ := hd
  by_cases e0 : k = 0
  · subst e0
    by_cases h1 : d < 1
    · obtain rfl : false = b := by rw [← hb]; simp [okG]; omega
      go_enter Try.func68, Try.ntmps68
      go_wp2
      go_ret
      exact ⟨rfl, boxed _ _⟩
    · by_cases h8 : 8 < d
      · obtain rfl : false = b := by rw [← hb]; simp [okG]; omega
        go_enter Try.func68, Try.ntmps68
        go_wp2
        go_ret
        exact ⟨rfl, boxed _ _⟩
      · obtain rfl : true = b := by rw [← hb]; simp [okG]; omega
        go_enter Try.func68, Try.ntmps68
        go_wp2
        go_ret
        exact ⟨rfl, boxed _ _⟩
  · have e0' : (k == 0) = false := by simp [e0]
    by_cases e1 : k = 1
    · subst e1
      by_cases h1 : d < 3
      · obtain rfl : false = b := by rw [← hb]; simp [okG]; omega
        go_enter Try.func68, Try.ntmps68
        go_wp2
        go_ret
        exact ⟨rfl, boxed _ _⟩
      · by_cases h8 : 8 < d
        · obtain rfl : false = b := by rw [← hb]; simp [okG]; omega
          go_enter Try.func68, Try.ntmps68
          go_wp2
          go_ret
          exact ⟨rfl, boxed _ _⟩
        · obtain rfl : true = b := by rw [← hb]; simp [okG]; omega
          go_enter Try.func68, Try.ntmps68
          go_wp2
          go_ret
          exact ⟨rfl, boxed _ _⟩
    · have e1' : (k == 1) = false := by simp [e1]
      obtain rfl : false = b := by rw [← hb]; simp [okG, e0, e1]
      go_enter Try.func68, Try.ntmps68
      go_wp2
      go_ret
      exact ⟨rfl, boxed _ _⟩

/-- All groups that were looked at are right. -/
def okTo (l : List (Int × Int)) (k : Nat) : Prop := ∀ j (h : j < l.length), j < k → okG l[j] = true
theorem okTo_all {l : List (Int × Int)} (h : okTo l l.length) : l.all okG = true := by
  rw [List.all_eq_true]
  intro x hx
  obtain ⟨j, hj, rfl⟩ := List.getElem_of_mem hx
  exact h j hj hj
theorem okTo_not {l : List (Int × Int)} {k : Nat} (hk : k < l.length) (h : okG l[k] = false) : l.all okG = false := by
  cases e : l.all okG with
  | false => rfl
  | true =>
    rw [List.all_eq_true] at e
    rw [e _ (List.getElem_mem hk)] at h
    cases h
set_option maxHeartbeats 1000000 in
theorem index_any (l : List (Int × Int)) (a : Option Addr) (n c : Nat) (w : World) (h : Grps w a n l) :
    Calls Try.prog 69 #[.slice a n c, .func (.func 68) #[] #[]] w fun e w' =>
      ∃ k : Int, e = .returned (.int .i64 k) ∧ (l.all okG = true → k = -1) ∧ (l.all okG = false → 0 ≤ k ∧ k ≤ 9223372036854775807) ∧ Below w.heap.size w w' := by
  obtain ⟨hm, hn, hc⟩ := h
  unfold maxLen at hm
  have HC := Lib.hid hc
  have HN := Lib.hid hn
  clear hc hn
  go_enter Try.func69, Try.ntmps69
  go_wp2_with fail
  go_loopw [8] (fun i wr => ∃ k : Nat, k ≤ n ∧ i = .int .i64 k ∧ Hid (okTo l k) ∧ Below w.heap.size w wr) (fun i _ => n - (intOf i).toNat)
  case atStart => exact ⟨0, Nat.zero_le _, rfl, Lib.hid fun j _ hj => absurd hj (Nat.not_lt_zero _), Below.refl _ _⟩
  case round =>
    obtain ⟨k, hk, rfl, H, hb⟩ := hrel
    by_cases hlt : k < n
    · have hlt' : k < l.length := by rw [HN.out]; exact hlt
      obtain ⟨g, o, rfl, hg⟩ := HC.out k hlt'
      obtain ⟨_, c0, c1, p0, p1, q0, q1⟩ := hg.below hb
      generalize hx : l[k] = x at c0 c1 p0 p1 q0 q1
      have HX : Hid (∃ h : k < l.length, l[k] = x) := Lib.hid ⟨hlt', hx⟩
      clear hx hg hlt'
      obtain ⟨x1, x2⟩ := x
      dsimp only at c0 c1 p0 p1 q0 q1
      cases hz : okG (x1, x2) with
      | true =>
        have HZ := Lib.hid hz
        clear hz
        go_wp2_with fail
        refine (pred_any x1 x2 _ ⟨p0, p1⟩ ⟨q0, q1⟩ true HZ.out).mono ?_
        rintro e w1 ⟨rfl, b1⟩
        go_wp2
        go_roundw
        case rel =>
          refine ⟨k + 1, by omega, by go_num, Lib.hid fun j hj hjk => ?_, next hb b1⟩
          by_cases e : j = k
          · subst e
            obtain ⟨_, hs⟩ := HX.out
            rw [hs, HZ.out]
          · exact H.out j hj (by omega)
        case measure => simp [intOf]; omega
      | false =>
        have HZ := Lib.hid hz
        clear hz
        go_wp2_with fail
        refine (pred_any x1 x2 _ ⟨p0, p1⟩ ⟨q0, q1⟩ false HZ.out).mono ?_
        rintro e w1 ⟨rfl, b1⟩
        go_wp2
        go_ret
        have hno : l.all okG = false := by
          obtain ⟨hk', hs⟩ := HX.out
          exact okTo_not hk' (by rw [hs]; exact HZ.out)
        exact ⟨k, rfl, fun h => by (rw [hno] at h; cases h), fun _ => by omega, next hb b1⟩
    · go_wp2
      go_ret
      have hyes : l.all okG = true := okTo_all (by
        obtain rfl : k = n := by omega
        rw [HN.out]; exact H.out)
      exact ⟨-1, rfl, fun _ => rfl, fun h => by (rw [hyes] at h; cases h), hb⟩

theorem contains_any (l : List (Int × Int)) (a : Option Addr) (n c : Nat) (w : World) (h : Grps w a n l) (b : Bool) (hb : l.all okG = b) :
    Calls Try.prog 67 #[.slice a n c, .func (.func 68) #[] #[]] w fun e w' => e = .returned (.bool (!b)) ∧ Below w.heap.size w w' := by
  have hI := Lib.hid (index_any l a n c w h)
  clear h
  have HB := Lib.hid hb
  clear hb
  go_enter Try.func67, Try.ntmps67
  go_wp2_with fail
  refine hI.out.mono ?_
  rintro e w1 ⟨k, rfl, h1, h2, b1⟩
  rw [HB.out] at h1 h2
  cases b with
  | true =>
    obtain rfl := h1 rfl
    go_wp2
    go_ret
    exact ⟨rfl, b1⟩
  | false =>
    obtain ⟨hk, hk'⟩ := h2 rfl
    clear h1 h2
    go_wp2
    go_ret
    exact ⟨rfl, b1⟩

set_option maxHeartbeats 1000000 in
theorem right_any (l : List (Int × Int)) (s : Int) (v : Value) (w : World) (h : Meas w v l s) (b : Bool) (hb : rightL l s = b) :
    Calls Try.prog 63 #[v] w fun e w' => e = .returned (.bool b) ∧ Below w.heap.size w w' := by
  obtain ⟨a, n, c, rfl, hg, s0, s1⟩ := h
  have hm := hg.1
  have hn := hg.2.1
  unfold maxLen at hm
  have HG := Lib.hid hg
  clear hg
  by_cases h0 : n = 0
  · subst h0
    obtain rfl : false = b := by rw [← hb]; simp [rightL, hn]
    go_enter Try.func63, Try.ntmps63
    go_wp2
    go_ret
    exact ⟨rfl, boxed _ _⟩
  have h0' : ((n : Int) == 0) = false := by simp [h0]
  by_cases h4 : 4 < n
  · obtain rfl : false = b := by rw [← hb, rightL, hn]; simp; omega
    go_enter Try.func63, Try.ntmps63
    go_wp2
    go_ret
    exact ⟨rfl, boxed _ _⟩
  by_cases h24 : s < 24
  · obtain rfl : false = b := by rw [← hb, rightL, hn]; simp; omega
    go_enter Try.func63, Try.ntmps63
    go_wp2
    go_ret
    exact ⟨rfl, boxed _ _⟩
  by_cases h40 : 4096 < s
  · obtain rfl : false = b := by rw [← hb, rightL, hn]; simp; omega
    go_enter Try.func63, Try.ntmps63
    go_wp2
    go_ret
    exact ⟨rfl, boxed _ _⟩
  have hall : Hid (l.all okG = b) := Lib.hid (by
    rw [← hb, rightL, hn]
    simp [show 0 < n by omega, show n ≤ 4 by omega, show 24 ≤ s by omega, show s ≤ 4096 by omega])
  clear hb hn
  go_enter Try.func63, Try.ntmps63
  go_wp2_with fail
  refine (contains_any l a n c _ (HG.out.below (boxed _ _)) b hall.out).mono ?_
  rintro e w1 ⟨rfl, b1⟩
  go_wp2
  go_ret
  exact ⟨by simp, next (boxed _ _) b1⟩
end Go.Proofs.Ythpifplflhhkiaa
