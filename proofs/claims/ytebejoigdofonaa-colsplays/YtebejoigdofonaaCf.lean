/-
  Columns compared: the document's Same; the example.
-/
import Derived.Test.YtebejoigdofonaaCe
namespace Go.Proofs.Ytebejoigdofonaa
open Go.RowKit

/-- The slice v is the columns l. -/
def ColsV (w : World) (v : Value) (l : List C) : Prop :=
  ∃ a n c, v = .slice a n c ∧ l.length = n ∧ ∀ j (h : j < l.length), ∃ g, a = some ⟨g, 0, none⟩ ∧ g < w.heap.size ∧ IsC w g (j * 4) l[j]
theorem ColsV.next {w w' : World} {v : Value} {l : List C} (h : ColsV w v l) (k : Below w.heap.size w w') : ColsV w' v l := by
  obtain ⟨a, n, c, rfl, hn, hj⟩ := h
  refine ⟨a, n, c, rfl, hn, fun j h => ?_⟩
  obtain ⟨g, ha, hg, hc⟩ := hj j h
  exact ⟨g, ha, Nat.lt_of_lt_of_le hg k.size, hc.below hg k⟩
theorem OwnC.v {w : World} {B : Nat} {v : Value} {l : List C} (h : OwnC B w v l) : ColsV w v l := by
  by_cases hl : 0 < l.length
  · obtain ⟨g, c, rfl, hc, hB, hA⟩ := h.some hl
    exact ⟨_, _, _, rfl, rfl, fun j hj => ⟨g, rfl, hA.lt, hA.at_ j hj⟩⟩
  · obtain ⟨a, c, rfl⟩ := h.none
    exact ⟨_, _, _, rfl, rfl, fun j hj => absurd hj (by omega)⟩
theorem ColsV.some {w : World} {v : Value} {l : List C} (h : ColsV w v l) (hl : 0 < l.length) : ∃ g n c, v = .slice (some ⟨g, 0, none⟩) n c ∧ l.length = n ∧ g < w.heap.size ∧ ∀ j (h : j < l.length), IsC w g (j * 4) l[j] := by
  obtain ⟨a, n, c, rfl, hn, hj⟩ := h
  obtain ⟨g, rfl, hg, _⟩ := hj 0 hl
  refine ⟨g, n, c, rfl, hn, hg, fun j h => ?_⟩
  obtain ⟨g', e, _, hc⟩ := hj j h
  cases e
  exact hc
theorem ColsV.nil (w : World) : ColsV w (.slice none 0 0) [] := ⟨_, _, _, rfl, rfl, fun _ h => absurd h (Nat.not_lt_zero _)⟩
def C.same (a b : C) : Bool := (a.dev == b.dev) && (a.at_ == b.at_) && (a.par == b.par) && (a.row == b.row)
theorem C.same_iff {a b : C} : a.same b = true ↔ a = b := by
  cases a; cases b
  simp [C.same, and_assoc]

theorem C.cmp (x y : C) : x = y ∨ (x ≠ y ∧ ((x.dev == y.dev) = false ∨ ((x.dev == y.dev) = true ∧ (x.at_ == y.at_) = false) ∨ ((x.dev == y.dev) = true ∧ (x.at_ == y.at_) = true ∧ (x.par == y.par) = false) ∨
    ((x.dev == y.dev) = true ∧ (x.at_ == y.at_) = true ∧ (x.par == y.par) = true ∧ (x.row == y.row) = false))) := by
  by_cases h : x = y
  · exact .inl h
  · refine .inr ⟨h, ?_⟩
    by_cases h0 : x.dev = y.dev
    · by_cases h1 : x.at_ = y.at_
      · by_cases h2 : x.par = y.par
        · by_cases h3 : x.row = y.row
          · exact absurd (C.ext' h0 h1 h2 h3) h
          · exact .inr (.inr (.inr ⟨by simp [h0], by simp [h1], by simp [h2], by simp [h3]⟩))
        · exact .inr (.inr (.inl ⟨by simp [h0], by simp [h1], by rw [beq_eq_false_iff_ne]; exact h2⟩))
      · exact .inr (.inl ⟨by simp [h0], by simp [h1]⟩)
    · exact .inl (by simp [h0])

set_option maxHeartbeats 1000000 in
theorem same_any (w : World) (v1 v2 : Value) (l1 l2 : List C) (h1 : ColsV w v1 l1) (h2 : ColsV w v2 l2) (hl1 : l1.length ≤ 100000) (hl2 : l2.length ≤ 100000) (b : Bool) (hb : b = true ↔ l1 = l2) :
    Calls Try.prog 15 #[v1, v2] w fun e w' => e = .returned (.bool b) ∧ Below w.heap.size w w' := by
  obtain ⟨a, n, c, rfl, hn, hc⟩ := h1
  obtain ⟨a', n', c', rfl, hn', hc'⟩ := h2
  rw [hn] at hl1
  rw [hn'] at hl2
  have HN := Lib.hid hn
  have HN' := Lib.hid hn'
  have HC := Lib.hid hc
  have HC' := Lib.hid hc'
  have HB := Lib.hid hb
  clear hn hn' hc hc' hb
  by_cases e : n = n'
  · subst e
    have hnn : ((n : Int) != (n : Int)) = false := by simp
    go_enter Try.func15, Try.ntmps15
    go_wp2_with fail
    go_loopw [5] (fun i wr => ∃ k : Nat, k ≤ n ∧ i = .int .i64 (k : Int) ∧ Hid (∀ j (h : j < l1.length) (h' : j < l2.length), j < k → l1[j] = l2[j]) ∧ Hid (Below w.heap.size w wr)) (fun i _ => n - (intOf i).toNat)
    case atStart => exact ⟨0, Nat.zero_le _, rfl, Lib.hid fun j _ _ h => absurd h (Nat.not_lt_zero _), Lib.hid (Below.refl _ _)⟩
    case round =>
      obtain ⟨k, hk, rfl, HE, HW⟩ := hrel
      by_cases hlt : k < n
      · have hk1 : k < l1.length := by rw [HN.out]; exact hlt
        have hk2 : k < l2.length := by rw [HN'.out]; exact hlt
        obtain ⟨g, rfl, hg, hC⟩ := HC.out k hk1
        obtain ⟨g', rfl, hg', hC'⟩ := HC'.out k hk2
        obtain ⟨x, hx⟩ : ∃ x, l1[k] = x := ⟨_, rfl⟩
        obtain ⟨y, hy⟩ : ∃ y, l2[k] = y := ⟨_, rfl⟩
        rw [hx] at hC
        rw [hy] at hC'
        obtain ⟨d0, d1, d2, d3⟩ := hC.below hg HW.out
        obtain ⟨e0, e1, e2, e3⟩ := hC'.below hg' HW.out
        have HK : Hid (∃ h1 : k < l1.length, ∃ h2 : k < l2.length, l1[k] = x ∧ l2[k] = y) := Lib.hid ⟨hk1, hk2, hx, hy⟩
        clear hx hy hk1 hk2
        rcases C.cmp x y with hxy | ⟨hxy, h0 | ⟨h0, h1⟩ | ⟨h0, h1, h2⟩ | ⟨h0, h1, h2, h3⟩⟩
        · subst hxy
          go_wp2_with fail
          go_quiet (fail)
          go_wp2
          go_roundw
          case rel =>
            refine ⟨k + 1, by omega, by go_num, Lib.hid fun j h h' hj => ?_, Lib.hid (below_drewN HW.out _)⟩
            by_cases e : j = k
            · subst e
              obtain ⟨_, _, e1, e2⟩ := HK.out
              rw [e1, e2]
            · exact HE.out j h h' (by omega)
          case measure => simp [intOf]; omega
        all_goals
          have hbf : false = b := by
            cases e : b with
            | false => rfl
            | true =>
              have e' := HB.out.1 e
              obtain ⟨h1, h2, e1, e2⟩ := HK.out
              subst e'
              exact absurd (e1.symm.trans e2) hxy
          subst hbf
          have HNE := Lib.hid hxy
          clear hxy
          go_wp2_with fail
          go_quiet (fail)
          go_wp2
          go_ret
          exact ⟨rfl, below_drewN HW.out _⟩
      · obtain rfl : k = n := by omega
        have hbt : true = b := (HB.out.2 (List.ext_getElem (HN.out.trans HN'.out.symm) fun j h h' => HE.out j h h' (by rw [HN.out] at h; exact h))).symm
        subst hbt
        go_wp2
        go_ret
        exact ⟨rfl, HW.out⟩
  · have hnn : ((n : Int) != (n' : Int)) = true := by simp; omega
    have hbf : false = b := by
      cases e' : b with
      | false => rfl
      | true =>
        have h := HB.out.1 e'
        have h1 := HN.out
        have h2 := HN'.out
        rw [h] at h1
        omega
    subst hbf
    clear e
    go_enter Try.func15, Try.ntmps15
    go_wp2
    go_ret
    exact ⟨rfl, Below.refl _ _⟩
end Go.Proofs.Ytebejoigdofonaa
