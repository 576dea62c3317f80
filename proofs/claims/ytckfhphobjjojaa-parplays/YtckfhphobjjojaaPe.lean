/-
  par.Even, par.Blank, polderlaw03.few: what they answer.
-/
import Derived.Test.YtckfhphobjjojaaPt
namespace Go.Proofs.Ytckfhphobjjojaa
open Go.RowKit M

/-- The closure of Even: is a text of another length than the first? -/
theorem pred_any (s s0 : ByteArray) (B g o n c : Nat) (w : World) (hB : w.cell? ⟨B, 0, none⟩ = some (.slice (some ⟨g, o, none⟩) n c)) (hn : 0 < n) (hc : w.cell? ⟨g, o, none⟩ = some (.string s0)) (b : Bool) (hb : ((s.size : Int) != (s0.size : Int)) = b) :
    Calls Try.prog 21 #[.string s, .pointer (some ⟨B, 0, none⟩)] w fun e w' => e = .returned (.bool b) ∧ w = w' := by
  go_enter Try.func21, Try.ntmps21
  go_wp2
  go_ret
  exact ⟨rfl, rfl⟩

/-- All that were looked at are as long as the first. -/
def sameTo (l : List ByteArray) (k : Nat) : Prop := ∀ j (h : j < l.length), j < k → l[j].size = wide l
theorem wide_at0 {l : List ByteArray} (h : 0 < l.length) : l[0].size = wide l := by
  cases l with
  | nil => exact absurd h (Nat.not_lt_zero _)
  | cons s r => rfl
theorem sameTo_all {l : List ByteArray} (h : sameTo l l.length) : evenL l = true := by
  rw [even_iff]
  intro s hs
  obtain ⟨j, hj, rfl⟩ := List.getElem_of_mem hs
  exact h j hj hj
theorem sameTo_not {l : List ByteArray} {k : Nat} (hk : k < l.length) (h : l[k].size ≠ wide l) : evenL l = false := by
  cases e : evenL l with
  | false => rfl
  | true => exact absurd (even_iff.1 e _ (List.getElem_mem hk)) h

set_option maxHeartbeats 1000000 in
theorem index_any (l : List ByteArray) (B g o c : Nat) (w : World) (hl : 0 < l.length) (hm : l.length ≤ maxLen) (hcc : l.length ≤ c)
    (hB : w.cell? ⟨B, 0, none⟩ = some (.slice (some ⟨g, o, none⟩) l.length c)) (hc : ∀ j (h : j < l.length), w.cell? ⟨g, o + j, none⟩ = some (.string l[j])) :
    Calls Try.prog 23 #[.slice (some ⟨g, o, none⟩) l.length c, .func (.func 21) #[] #[.pointer (some ⟨B, 0, none⟩)]] w fun e w' =>
      ∃ k : Int, e = .returned (.int .i64 k) ∧ (evenL l = true → k = -1) ∧ (evenL l = false → 0 ≤ k) ∧ w = w' := by
  unfold maxLen at hm
  have hc0 := hc 0 hl
  rw [Nat.add_zero] at hc0
  have hw := wide_at0 hl
  generalize hs0 : l[0] = s0 at hc0 hw
  clear hs0
  have HC := Lib.hid hc
  have HW := Lib.hid hw
  clear hc hw
  generalize hn : l.length = n at hl hm hcc hB
  have HN := Lib.hid hn
  clear hn
  go_enter Try.func23, Try.ntmps23
  go_wp2_with fail
  go_loop [8] (fun i => ∃ k : Nat, k ≤ n ∧ i = .int .i64 k ∧ Hid (sameTo l k)) (fun i => n - (intOf i).toNat)
  case atStart => exact ⟨0, Nat.zero_le _, rfl, Lib.hid fun j _ hj => absurd hj (Nat.not_lt_zero _)⟩
  case round =>
    obtain ⟨k, hk, rfl, H⟩ := hrel
    by_cases hlt : k < n
    · have hlt' : k < l.length := by rw [HN.out]; exact hlt
      have hck := HC.out k hlt'
      generalize hs : l[k] = s at hck
      have HS : Hid (∃ h : k < l.length, l[k] = s) := Lib.hid ⟨hlt', hs⟩
      clear hs hlt'
      by_cases hz : s.size = s0.size
      · have hz' : ((s.size : Int) != (s0.size : Int)) = false := by rw [hz]; simp
        have HZ := Lib.hid hz
        have HZ' := Lib.hid hz'
        clear hz hz'
        go_wp2_with fail
        refine (pred_any s s0 B g o n c _ hB hl hc0 false HZ'.out).mono ?_
        rintro e w1 ⟨rfl, rfl⟩
        go_wp2
        go_round
        case rel =>
          refine ⟨k + 1, by omega, by go_num, Lib.hid fun j hj hjk => ?_⟩
          by_cases e : j = k
          · subst e
            obtain ⟨_, hs⟩ := HS.out
            rw [hs, HZ.out, HW.out]
          · exact H.out j hj (by omega)
        case measure => simp [intOf]; omega
      · have hz' : ((s.size : Int) != (s0.size : Int)) = true := by rw [bne_iff_ne]; omega
        have HZ := Lib.hid hz
        have HZ' := Lib.hid hz'
        clear hz hz'
        go_wp2_with fail
        refine (pred_any s s0 B g o n c _ hB hl hc0 true HZ'.out).mono ?_
        rintro e w1 ⟨rfl, rfl⟩
        go_wp2
        go_ret
        have hno : evenL l = false := by
          obtain ⟨hk', hs⟩ := HS.out
          exact sameTo_not hk' (by rw [hs, ← HW.out]; exact HZ.out)
        exact ⟨k, rfl, fun h => by (rw [hno] at h; cases h), fun _ => by omega, rfl⟩
    · go_wp2
      go_ret
      have hyes : evenL l = true := sameTo_all (by
        obtain rfl : k = n := by omega
        rw [HN.out]; exact H.out)
      exact ⟨-1, rfl, fun _ => rfl, fun h => by (rw [hyes] at h; cases h), rfl⟩

theorem contains_any (l : List ByteArray) (B g o c : Nat) (w : World) (hl : 0 < l.length) (hm : l.length ≤ maxLen) (hcc : l.length ≤ c)
    (hB : w.cell? ⟨B, 0, none⟩ = some (.slice (some ⟨g, o, none⟩) l.length c)) (hc : ∀ j (h : j < l.length), w.cell? ⟨g, o + j, none⟩ = some (.string l[j])) (b : Bool) (hb : evenL l = b) :
    Calls Try.prog 20 #[.slice (some ⟨g, o, none⟩) l.length c, .func (.func 21) #[] #[.pointer (some ⟨B, 0, none⟩)]] w fun e w' => e = .returned (.bool (!b)) ∧ w = w' := by
  have hI := Lib.hid (index_any l B g o c w hl hm hcc hB hc)
  clear hB hc hcc hm
  have HB := Lib.hid hb
  clear hb
  go_enter Try.func20, Try.ntmps20
  go_wp2_with fail
  refine hI.out.mono ?_
  rintro e w1 ⟨k, rfl, h1, h2, rfl⟩
  rw [HB.out] at h1 h2
  cases b with
  | true =>
    obtain rfl := h1 rfl
    go_wp2
    go_ret
    exact ⟨rfl, rfl⟩
  | false =>
    have hk := h2 rfl
    clear h1 h2
    go_wp2
    go_ret
    exact ⟨rfl, rfl⟩
theorem even_any (l : List ByteArray) (v : Value) (w : World) (h : Txt w v l) (hm : l.length ≤ maxLen) (b : Bool) (hb : evenL l = b) :
    Calls Try.prog 11 #[v] w fun e w' => e = .returned (.bool b) ∧ Below w.heap.size w w' := by
  by_cases hl : 0 < l.length
  · obtain ⟨g, o, c, rfl, hcc, hg, hc⟩ := h.isSome hl
    have HC := Lib.hid hc
    have HB := Lib.hid hb
    clear hc hb h
    go_enter Try.func11, Try.ntmps11
    go_wp2_with fail
    refine (contains_any l w.heap.size g o c _ hl hm hcc (by simp) (fun j hj => ?_) b HB.out).mono ?_
    · rw [((Below.refl _ w).alloc (Nat.le_refl _) _).cell (p := ⟨g, o + j, none⟩) hg]; exact HC.out j hj
    rintro e w1 ⟨rfl, rfl⟩
    go_wp2
    go_ret
    exact ⟨by simp, (Below.refl _ w).alloc (Nat.le_refl _) _⟩
  · obtain rfl : l = [] := List.eq_nil_of_length_eq_zero (by omega)
    obtain ⟨a, c, rfl⟩ := h.isNone
    obtain rfl : true = b := hb
    clear h hl hm
    go_enter Try.func11, Try.ntmps11
    go_wp2_with go_in
    refine wp_loop_rounds 1 ?_
    rw [rounds_succ]
    go_wp2
    go_ret
    exact ⟨rfl, (Below.refl _ w).alloc (Nat.le_refl _) _⟩
end Go.Proofs.Ytckfhphobjjojaa
