/-
  The document's answers: its Even and Without.
-/
import Derived.Test.YtckfhphobjjojaaPg
namespace Go.Proofs.Ytckfhphobjjojaa
open Go.RowKit M

set_option maxHeartbeats 1000000 in
theorem refEven_any (l : List ByteArray) (v : Value) (w : World) (h : Txt w v l) (hm : l.length ≤ maxLen) (hz : ∀ s ∈ l, s.size ≤ maxLen) (b : Bool) (hb : evenL l = b) :
    Calls Try.prog 15 #[v] w fun e w' => e = .returned (.bool b) ∧ Below w.heap.size w w' := by
  have HB := Lib.hid hb
  clear hb
  by_cases hl : 0 < l.length
  · obtain ⟨g, o, c, rfl, hcc, hg, hc⟩ := h.isSome hl
    unfold maxLen at hm hz
    have hc0 := hc 0 hl
    rw [Nat.add_zero] at hc0
    have hw := wide_at0 hl
    have hs0m := hz _ (List.getElem_mem hl)
    generalize hs0 : l[0] = s0 at hc0 hw hs0m
    clear hs0
    have HC := Lib.hid hc
    have HW := Lib.hid hw
    have HZ := Lib.hid hz
    clear hc hw h hz
    generalize hn : l.length = n at hl hm hcc
    have HN := Lib.hid hn
    clear hn
    go_enter Try.func15, Try.ntmps15
    go_wp2_with fail
    go_loopw [3] (fun i wx => ∃ k : Nat, 1 ≤ k ∧ k ≤ n ∧ i = .int .i64 k ∧ Hid (sameTo l k) ∧ Below w.heap.size w wx) (fun i _ => n - (intOf i).toNat)
    case atStart =>
      refine ⟨1, Nat.le_refl _, hl, rfl, Lib.hid fun j hj hj1 => ?_, Below.refl _ _⟩
      obtain rfl : j = 0 := by omega
      exact wide_at0 hj
    case round =>
      obtain ⟨k, hk1, hk, rfl, H, hbw⟩ := hrel
      by_cases hlt : k < n
      · have hlt' : k < l.length := by rw [HN.out]; exact hlt
        have hck : wr.cell? ⟨g, o + k, none⟩ = some (.string l[k]) := by rw [hbw.cell (p := ⟨g, o + k, none⟩) hg]; exact HC.out k hlt'
        have hc0r : wr.cell? ⟨g, o, none⟩ = some (.string s0) := by rw [hbw.cell (p := ⟨g, o, none⟩) hg]; exact hc0
        have hskm := HZ.out _ (List.getElem_mem hlt')
        generalize hs : l[k] = s at hck hskm
        have HS : Hid (∃ h : k < l.length, l[k] = s) := Lib.hid ⟨hlt', hs⟩
        clear hs hlt'
        by_cases hz : s.size = s0.size
        · have hz' : ((s.size : Int) != (s0.size : Int)) = false := by rw [hz]; simp
          have HZ' := Lib.hid hz
          clear hz
          go_wp2_with fail
          go_quiet (fail)
          go_wp2
          go_round
          case rel =>
            refine ⟨k + 1, by omega, by omega, by go_num, Lib.hid fun j hj hjk => ?_, below_drewN hbw _⟩
            by_cases e : j = k
            · subst e
              obtain ⟨_, hs⟩ := HS.out
              rw [hs, HZ'.out, HW.out]
            · exact H.out j hj (by omega)
          case measure => simp [intOf]; omega
        · have hz' : ((s.size : Int) != (s0.size : Int)) = true := by rw [bne_iff_ne]; omega
          have HZ' := Lib.hid hz
          clear hz
          go_wp2_with fail
          go_quiet (fail)
          go_wp2
          go_ret
          have hno : evenL l = false := by
            obtain ⟨hk', hs⟩ := HS.out
            exact sameTo_not hk' (by rw [hs, ← HW.out]; exact HZ'.out)
          exact ⟨by rw [← HB.out, hno]; rfl, below_drewN hbw _⟩
      · go_wp2
        go_ret
        have hyes : evenL l = true := sameTo_all (by
          obtain rfl : k = n := by omega
          rw [HN.out]; exact H.out)
        exact ⟨by rw [← HB.out, hyes]; rfl, hbw⟩
  · obtain rfl : l = [] := List.eq_nil_of_length_eq_zero (by omega)
    obtain ⟨a, c, rfl⟩ := h.isNone
    obtain rfl : true = b := HB.out
    clear h hl hm hz HB
    go_enter Try.func15, Try.ntmps15
    go_wp2_with fail
    refine wp_loop_rounds 1 ?_
    rw [rounds_succ]
    go_wp2
    go_ret
    exact ⟨rfl, Below.refl _ _⟩

/-- The first k texts without the one at place j. -/
def outTo (l : List ByteArray) (j k : Nat) : List ByteArray := (l.take k).eraseIdx j
theorem outTo_zero (l : List ByteArray) (j : Nat) : outTo l j 0 = [] := by simp [outTo]
theorem outTo_all (l : List ByteArray) (j : Nat) : outTo l j l.length = l.eraseIdx j := by simp [outTo]
theorem outTo_same (l : List ByteArray) (j : Nat) (h : j < l.length) : outTo l j (j + 1) = outTo l j j := by
  have hl : (l.take j).length = j := by rw [List.length_take]; omega
  have e1 : (l.take j ++ [l[j]]).eraseIdx j = l.take j := by
    rw [List.eraseIdx_append_of_length_le (by omega), hl, Nat.sub_self]
    exact List.append_nil _
  have e2 : (l.take j).eraseIdx j = l.take j := List.eraseIdx_of_length_le (by omega)
  rw [outTo, outTo, List.take_succ_eq_append_getElem h, e1, e2]
theorem outTo_next (l : List ByteArray) (j k : Nat) (h : k < l.length) (hne : k ≠ j) : outTo l j k ++ [l[k]] = outTo l j (k + 1) := by
  have hl : (l.take k).length = k := by rw [List.length_take]; omega
  unfold outTo
  rw [List.take_succ_eq_append_getElem h]
  by_cases hj : j < k
  · rw [List.eraseIdx_append_of_lt_length (by omega)]
  · rw [List.eraseIdx_of_length_le (by omega), List.eraseIdx_of_length_le (by simp; omega)]
theorem outTo_le (l : List ByteArray) (j k : Nat) : (outTo l j k).length ≤ l.length := by
  unfold outTo
  have h1 := List.length_eraseIdx_le (l.take k) j
  rw [List.length_take] at h1
  omega

set_option maxHeartbeats 1000000 in
theorem without_any (l : List ByteArray) (a : Option Addr) (n c : Nat) (at_ : Int) (w : World) (h : Txt w (.slice a n c) l) (hm : n ≤ 4294967295) (j : Nat) (hj : at_ = j) (hjn : j < n) :
    Calls Try.prog 18 #[.slice a n c, .int .i64 at_] w fun e w' => ∃ a' m c', e = .returned (.slice a' m c') ∧ Txt w' (.slice a' m c') (l.eraseIdx j) ∧ Below w.heap.size w w' := by
  subst hj
  have HN := Lib.hid h.len
  obtain ⟨g, o, c', e, hcc, hg, hc⟩ := h.isSome (by rw [HN.out]; omega)
  simp only [Value.slice.injEq] at e
  obtain ⟨rfl, -, rfl⟩ := e
  rw [HN.out] at hcc
  have HC := Lib.hid hc
  clear hc h
  go_enter Try.func18, Try.ntmps18
  go_wp2_with fail
  go_loopw [5, 6] (fun x i wx => ∃ (k m : Nat) (a' : Option Addr) (c' : Nat), k ≤ n ∧ i = .int .i64 k ∧ x = .slice a' m c' ∧ m ≤ n ∧ Own wx w.heap.size (.slice a' m c') (outTo l j k) ∧ Below w.heap.size w wx) (fun _ i _ => n - (intOf i).toNat)
  case atStart => exact ⟨0, 0, none, 0, Nat.zero_le _, rfl, rfl, Nat.zero_le _, by rw [outTo_zero]; exact World.ownsRow_nil _ _ _ _, Below.refl _ _⟩
  case round =>
    obtain ⟨k, m, a', c', hk, rfl, rfl, hmn, hO, hb⟩ := hrel
    by_cases hlt : k < n
    · have hlk : k < l.length := by rw [HN.out]; exact hlt
      by_cases hkj : k = j
      · subst hkj
        have hsame := outTo_same l k hlk
        rw [← hsame] at hO
        have HO := Lib.hid hO
        clear hO hsame
        go_wp2
        go_round
        case rel => exact ⟨k + 1, m, a', c', by omega, by go_num, rfl, hmn, HO.out, hb⟩
        case measure => simp [intOf]; omega
      · have hne : ((k : Int) != (j : Int)) = true := by rw [bne_iff_ne]; omega
        have hck : wr.cell? ⟨g, o + k, none⟩ = some (.string l[k]) := by rw [hb.cell (p := ⟨g, o + k, none⟩) hg]; exact HC.out k hlk
        have hnx := outTo_next l j k hlk hkj
        generalize l[k] = s at hck hnx
        have hlen : (outTo l j (k + 1)).length = m + 1 := by rw [← hnx, List.length_append, hO.txt.len]; rfl
        have hle := outTo_le l j (k + 1)
        rw [hlen, HN.out] at hle
        go_wp2_with (at_builtin; refine wpList_append_txt _ rfl (.tmp 16) (.tmp 21) rfl w.heap.size _ _ (outTo l j k) [s] (outTo l j (k + 1)) (m + 1) rfl rfl hnx hlen (hO.alloc _) (txt_one wr s) (by have := hb.size; simp; omega) (by omega) ?_; intro a2 c2 w2 hO2 b2 s2; clear hnx hlen)
        go_round
        case rel => exact ⟨k + 1, m + 1, a2, c2, by omega, by go_num, rfl, hle, hO2, (hb.alloc hb.size _).trans b2⟩
        case measure => simp [intOf]; omega
    · go_wp2
      go_ret
      obtain rfl : k = n := by omega
      have hall := outTo_all l j
      rw [HN.out] at hall
      rw [hall] at hO
      exact ⟨a', m, c', rfl, hO.txt, hb⟩
end Go.Proofs.Ytckfhphobjjojaa
