/-
  The walk of polderlaw01.LePlays: it returns true, and writes nothing that was there.
-/
import Derived.Test.YtmopopgablakaaaLawCuts
import Derived.RegionTactic
namespace Go.Proofs.Ytmopopgablakaaa
open Go.RowKit M

/-- What the walk is told of the acts: each one's two cells. -/
def IsActs (w : World) (a : Option Addr) (len : Nat) : Prop :=
  len ≤ maxLen ∧ ∀ i, i < len → ∃ (b off : Nat) (d n : Int), a = some ⟨b, off, none⟩ ∧ b < w.heap.size ∧ w.cell? ⟨b, off + i * 2, none⟩ = some (.int .u8 d) ∧ w.cell? ⟨b, off + i * 2 + 1, none⟩ = some (.int .i64 n) ∧
    0 ≤ d ∧ d ≤ 255 ∧ -9223372036854775808 ≤ n ∧ n ≤ 9223372036854775807

theorem behind {w wr : World} {b : Nat} {t : ByteArray} (hH : Has wr b t) (hB : Below w.heap.size w wr) (c : Array Value) (ty : TypeId) :
    Has (wr.alloc (.cells c ty)).drew b t ∧ Below w.heap.size w (wr.alloc (.cells c ty)).drew := by
  have h1 : Below wr.heap.size wr (wr.alloc (.cells c ty)).drew := ((Below.refl _ _).alloc (Nat.le_refl _) _).drew
  exact ⟨hH.below h1 hH.2.2, hB.trans (h1.mono hB.size)⟩
theorem left_tail (b q : Nat) (s : ByteArray) (w : World) (h : Has w b (tailB s q)) (hq : q ≤ s.size) :
    Calls Try.prog 20 #[.pointer (some ⟨b, 0, none⟩)] w fun e w' => e = .returned (.int .i64 ((s.size : Int) - (q : Int))) ∧ w = w' := by
  refine (left_any b _ w h).mono fun e w' ⟨he, hw⟩ => ⟨?_, hw⟩
  rw [he, tailB_size, Int.ofNat_sub hq]
theorem zeros_tail (b q : Nat) (s : ByteArray) (w : World) (h : Has w b (tailB s q)) (hs : s.size ≤ 3000) :
    Calls Try.prog 21 #[.pointer (some ⟨b, 0, none⟩)] w fun e w' => e = .returned (.bool (zerosB (s.extract q s.size))) ∧ w = w' :=
  zeros_any b (tailB s q) w h (by rw [tailB_size]; unfold maxLen; omega)
theorem refZeros_tail (q : Nat) (s : ByteArray) (w : World) (hs : s.size ≤ 3000) :
    Calls Try.prog 23 #[.string (s.extract q s.size)] w fun e w' => e = .returned (.bool (zerosB (s.extract q s.size))) ∧ w = w' :=
  refZeros_any _ w (by rw [ByteArray.size_extract]; unfold maxLen; omega)
theorem mid_list (s : ByteArray) (q m : Nat) : (s.extract q (q + m)).data.toList = (s.data.toList.drop q).take m := by
  rw [ByteArray.data_extract, Array.toList_extract]
  simp [List.extract]
theorem mid_head (s : ByteArray) (q m : Nat) : headB (tailB s q) m = s.extract q (q + m) := ext_list (by rw [headB_list, tailB_list, mid_list])
theorem tail_tail (s : ByteArray) (q m : Nat) : tailB (tailB s q) m = tailB s (q + m) := ext_list (by rw [tailB_list, tailB_list, tailB_list, List.drop_drop])
theorem num_mid (s : ByteArray) (q m : Nat) : numL ((tailB s q).data.toList.take m) = numL (s.extract q (q + m)).data.toList := by
  rw [tailB_list, mid_list]
theorem mid_size (s : ByteArray) (q m : Nat) (h : q + m ≤ s.size) : (s.extract q (q + m)).size = m := by
  rw [ByteArray.size_extract]; omega
theorem refNumber_none (w : World) : Calls Try.prog 22 #[.string ⟨#[]⟩] w fun e w' => e = .returned (.int .u64 0) ∧ w = w' :=
  refNumber_any ⟨#[]⟩ w (by decide)

/-- The acts, opened: two cells each. -/
theorem acts_of {H : Type} {enc : TypeId × Value → H} {W : World} {a : Option Addr} {len cap : Nat} {d : DataW H} {p : List MemPlace}
    (h : DataW.Trod enc Try.prog W 0 (fun _ => true) true 38 (.slice a len cap) d p) : IsActs W a len := by
  obtain ⟨fuel, hf⟩ := h
  have hC : Try.prog.cellsOf 40 = 2 := by kernel_rfl
  have hc0 : Try.prog.cellsOf 5 = 1 := by kernel_rfl
  have hc1 : Try.prog.cellsOf 3 = 1 := by kernel_rfl
  obtain ⟨hl, hi⟩ := slice_elems Try.underlying38 (by rw [hC]; omega) hf
  refine ⟨hl, fun i hlt => ?_⟩
  obtain ⟨b, off, cs, n, y, rfl, hb, hlen, hcell, ht⟩ := hi i hlt
  rw [hC] at hlen hcell
  obtain ⟨y0, y1, m, _, _, e0, e1⟩ := Go.ChangeShapes.trod_struct2 Try.underlying40 ht
  match cs, hlen with
  | [v0, v1], _ =>
    simp only [hc0, hc1] at e0 e1
    obtain ⟨d, hd, _, wd⟩ := DataW.trod_int Try.underlying5 e0
    obtain ⟨n, hn, _, wn⟩ := DataW.trod_int Try.underlying3 e1
    simp at hd hn
    subst hd hn
    obtain ⟨d0, d1⟩ := bounds_u8 wd
    obtain ⟨n0, n1⟩ := bounds_i64 wn
    have h0 := hcell 0 (by omega)
    have h1 := hcell 1 (by omega)
    exact ⟨b, off, d, n, rfl, hb, by simpa using h0, by simpa [Nat.add_assoc] using h1, d0, d1, n0, n1⟩

set_option maxRecDepth 100000 in
set_option maxHeartbeats 16000000 in
theorem walk_LePlays (s : ByteArray) (a : Option Addr) (len cap : Nat) (w : World) (hs : s.size ≤ maxLen) (hr : IsActs w a len) :
    Calls Try.prog 5 #[.string s, .slice a len cap] w fun e w' => e = .returned (.bool true) ∧ Below w.heap.size w w' := by
  have hlen := hr.1
  unfold maxLen at hs hlen
  by_cases hl : 3000 < s.size ∨ 100 < len
  · rcases hl with hl | hl
    · go_enter Try.func5, Try.ntmps5
      go_wp2_with fail
      refine (awake_any _).mono ?_
      rintro e w1 ⟨rfl, b1⟩
      go_wp2_with fail
      refine (awake_any _).mono ?_
      rintro e w2 ⟨rfl, b2⟩
      go_wp2
      go_ret
      exact ⟨rfl, early b1 b2⟩
    · by_cases hl2 : 3000 < s.size
      all_goals
        go_enter Try.func5, Try.ntmps5
        go_wp2_with fail
        refine (awake_any _).mono ?_
        rintro e w1 ⟨rfl, b1⟩
        go_wp2_with fail
        refine (awake_any _).mono ?_
        rintro e w2 ⟨rfl, b2⟩
        go_wp2
        go_ret
        exact ⟨rfl, early b1 b2⟩
  · obtain ⟨hl1, hl2⟩ : s.size ≤ 3000 ∧ len ≤ 100 := by omega
    clear hl
    have HR := Lib.hid hr
    clear hr
    go_enter Try.func5, Try.ntmps5
    go_wp2_with fail
    refine (awake_any _).mono ?_
    rintro e w1 ⟨rfl, c1⟩
    go_wp2_with fail
    refine (new_any s _).mono ?_
    rintro e w2 ⟨rfl, h2, b2⟩
    have c2 := early c1 b2
    have hb : w.heap.size ≤ w1.heap.size := c1.size
    clear b2 c1
    generalize w1.heap.size = b at h2 hb
    go_wp2_with fail
    go_loopw [6, 7] (fun p i wx => ∃ (k q : Nat), k ≤ len ∧ q ≤ s.size ∧ p = .int .i64 q ∧ i = .int .i64 k ∧ Has wx b (tailB s q) ∧ Below w.heap.size w wx) (fun _ i _ => len - (intOf i).toNat)
    case atStart => exact ⟨0, 0, Nat.zero_le _, Nat.zero_le _, rfl, rfl, by rw [show tailB s 0 = s from ext_list (by rw [tailB_list]; rfl)]; exact h2, c2⟩
    case round =>
      obtain ⟨k, q, hk, hq, rfl, rfl, hH, hB⟩ := hrel
      by_cases hlt : k < len
      · obtain ⟨ab, off, d, n, rfl, hab, hc0, hc1, d0, d1, n0, n1⟩ := HR.out.2 k hlt
        have hw0 : wr.cell? ⟨ab, off + k * 2, none⟩ = some (.int .u8 d) := by rw [hB.cell (p := ⟨ab, off + k * 2, none⟩) hab]; exact hc0
        have hw1 : wr.cell? ⟨ab, off + k * 2 + 1, none⟩ = some (.int .i64 n) := by rw [hB.cell (p := ⟨ab, off + k * 2 + 1, none⟩) hab]; exact hc1
        have hab' : ab < wr.heap.size := Nat.lt_of_lt_of_le hab hB.size
        have hts : (tailB s q).size = s.size - q := tailB_size s q
        clear hc0 hc1 h2 c2 HR
        have hd4 : d % 4 = 0 ∨ d % 4 = 1 ∨ d % 4 = 2 ∨ d % 4 = 3 := by omega
        rcases hd4 with hd | hd | hd | hd
        · by_cases hm : q + 4 ≤ s.size
          · have hge : (4 : Int) ≤ (s.size : Int) - (q : Int) := by omega
            go_wp2_with fail
            go_region
            all_goals go_wp2_with fail
            obtain ⟨hH1, hB1⟩ := behind hH hB #[.int .i64 4, .int .i64 8, .int .i64 8, .int .i64 n] 3
            generalize (wr.alloc (.cells #[.int .i64 4, .int .i64 8, .int .i64 8, .int .i64 n] 3)).drew = wq at hH1 hB1
            clear hH hB
            refine (mU32_ok w.heap.size b _ _ hH1 hb (by rw [hts]; omega)).mono ?_
            rw [num_mid, tail_tail]
            rintro e w4 ⟨rfl, h4, b4⟩
            have c4 := hB1.trans b4
            clear b4 hB1 hH1
            have hlt4 : numL (s.extract q (q + 4)).data.toList < 4294967296 := by
              have h1 := numL_lt (s.extract q (q + 4)).data.toList
              rw [← size_list, mid_size s q 4 hm] at h1
              exact h1
            have HNum := Lib.hid (refNumber_any (s.extract q (q + 4)))
            generalize numL (s.extract q (q + 4)).data.toList = x at hlt4 HNum
            go_wp2_with fail
            refine (HNum.out _ (by rw [mid_size s q 4 hm]; omega)).mono ?_
            rintro e w5 ⟨rfl, rfl⟩
            have hq4 : q + 4 ≤ s.size := hm
            go_wp2_with fail
            go_quiet (first | ((go_at_call 20; exact quiet_same (left_tail b (q + 4) s _ ((h4).drewN _) hm))) | ((go_at_call 21; exact quiet_same (zeros_tail b (q + 4) s _ ((h4).drewN _) hl1))) | ((go_at_call 23; exact quiet_same (refZeros_tail (q + 4) s _ hl1))))
            go_wp2
            refine ⟨⟨k + 1, (q + 4), by omega, hm, by go_num, by go_num, (h4).drewN _, below_drewN (c4) _⟩, by simp [intOf]; omega⟩
          · have hge : (s.size : Int) - (q : Int) < (4 : Int) := by omega
            go_wp2_with fail
            go_region
            all_goals go_wp2_with fail
            obtain ⟨hH1, hB1⟩ := behind hH hB #[.int .i64 4, .int .i64 8, .int .i64 8, .int .i64 n] 3
            generalize (wr.alloc (.cells #[.int .i64 4, .int .i64 8, .int .i64 8, .int .i64 n] 3)).drew = wq at hH1 hB1
            clear hH hB
            refine (mU32_short b _ _ hH1 (by rw [hts]; omega)).mono ?_
            rintro e w4 ⟨rfl, rfl⟩
            go_wp2_with fail
            refine (refNumber_none _).mono ?_
            rintro e w5 ⟨rfl, rfl⟩
            go_wp2_with fail
            go_quiet (first | ((go_at_call 20; exact quiet_same (left_tail b q s _ ((hH1).drewN _) hq))) | ((go_at_call 21; exact quiet_same (zeros_tail b q s _ ((hH1).drewN _) hl1))) | ((go_at_call 23; exact quiet_same (refZeros_tail q s _ hl1))))
            go_wp2
            refine ⟨⟨k + 1, q, by omega, hq, by go_num, by go_num, (hH1).drewN _, below_drewN (hB1) _⟩, by simp [intOf]; omega⟩
        · by_cases hm : q + 8 ≤ s.size
          · have hge : (8 : Int) ≤ (s.size : Int) - (q : Int) := by omega
            go_wp2_with fail
            go_region
            all_goals go_wp2_with fail
            obtain ⟨hH1, hB1⟩ := behind hH hB #[.int .i64 4, .int .i64 8, .int .i64 8, .int .i64 n] 3
            generalize (wr.alloc (.cells #[.int .i64 4, .int .i64 8, .int .i64 8, .int .i64 n] 3)).drew = wq at hH1 hB1
            clear hH hB
            refine (mU64_ok w.heap.size b _ _ hH1 hb (by rw [hts]; omega)).mono ?_
            rw [num_mid, tail_tail]
            rintro e w4 ⟨rfl, h4, b4⟩
            have c4 := hB1.trans b4
            clear b4 hB1 hH1
            have hlt4 : numL (s.extract q (q + 8)).data.toList < 18446744073709551616 := by
              have h1 := numL_lt (s.extract q (q + 8)).data.toList
              rw [← size_list, mid_size s q 8 hm] at h1
              exact h1
            have HNum := Lib.hid (refNumber_any (s.extract q (q + 8)))
            generalize numL (s.extract q (q + 8)).data.toList = x at hlt4 HNum
            go_wp2_with fail
            refine (HNum.out _ (by rw [mid_size s q 8 hm]; omega)).mono ?_
            rintro e w5 ⟨rfl, rfl⟩
            have hq4 : q + 8 ≤ s.size := hm
            go_wp2_with fail
            go_quiet (first | ((go_at_call 20; exact quiet_same (left_tail b (q + 8) s _ ((h4).drewN _) hm))) | ((go_at_call 21; exact quiet_same (zeros_tail b (q + 8) s _ ((h4).drewN _) hl1))) | ((go_at_call 23; exact quiet_same (refZeros_tail (q + 8) s _ hl1))))
            go_wp2
            refine ⟨⟨k + 1, (q + 8), by omega, hm, by go_num, by go_num, (h4).drewN _, below_drewN (c4) _⟩, by simp [intOf]; omega⟩
          · have hge : (s.size : Int) - (q : Int) < (8 : Int) := by omega
            go_wp2_with fail
            go_region
            all_goals go_wp2_with fail
            obtain ⟨hH1, hB1⟩ := behind hH hB #[.int .i64 4, .int .i64 8, .int .i64 8, .int .i64 n] 3
            generalize (wr.alloc (.cells #[.int .i64 4, .int .i64 8, .int .i64 8, .int .i64 n] 3)).drew = wq at hH1 hB1
            clear hH hB
            refine (mU64_short b _ _ hH1 (by rw [hts]; omega)).mono ?_
            rintro e w4 ⟨rfl, rfl⟩
            go_wp2_with fail
            refine (refNumber_none _).mono ?_
            rintro e w5 ⟨rfl, rfl⟩
            go_wp2_with fail
            go_quiet (first | ((go_at_call 20; exact quiet_same (left_tail b q s _ ((hH1).drewN _) hq))) | ((go_at_call 21; exact quiet_same (zeros_tail b q s _ ((hH1).drewN _) hl1))) | ((go_at_call 23; exact quiet_same (refZeros_tail q s _ hl1))))
            go_wp2
            refine ⟨⟨k + 1, q, by omega, hq, by go_num, by go_num, (hH1).drewN _, below_drewN (hB1) _⟩, by simp [intOf]; omega⟩
        · by_cases hm : q + 8 ≤ s.size
          · have hge : (8 : Int) ≤ (s.size : Int) - (q : Int) := by omega
            go_wp2_with fail
            go_region
            all_goals go_wp2_with fail
            obtain ⟨hH1, hB1⟩ := behind hH hB #[.int .i64 4, .int .i64 8, .int .i64 8, .int .i64 n] 3
            generalize (wr.alloc (.cells #[.int .i64 4, .int .i64 8, .int .i64 8, .int .i64 n] 3)).drew = wq at hH1 hB1
            clear hH hB
            have hlt8 : numL (s.extract q (q + 8)).data.toList < 18446744073709551616 := by
              have h1 := numL_lt (s.extract q (q + 8)).data.toList
              rw [← size_list, mid_size s q 8 hm] at h1
              exact h1
            have HNum := Lib.hid (fun wx => refNumber_any (s.extract q (q + 8)) wx (by rw [mid_size s q 8 hm]; omega))
            by_cases hx : 4611686018427387904 ≤ numL (s.extract q (q + 8)).data.toList
            · have HI := Lib.hid (fun wx h => mInt_form b (tailB s q) wx h (by rw [hts]; omega) (by rw [num_mid]; exact hx))
              generalize numL (s.extract q (q + 8)).data.toList = x at hlt8 HNum hx
              have hxb : decide ((4611686018427387904 : Int) ≤ (x : Int)) = true := by rw [decide_eq_true_eq]; omega
              clear hx hlt8
              refine (HNum.out _).mono ?_
              rintro e w4 ⟨rfl, rfl⟩
              go_wp2_with fail
              refine (HI.out _ hH1).mono ?_
              rintro e w4 ⟨rfl, rfl⟩
              go_wp2_with fail
              refine (refNumber_none _).mono ?_
              rintro e w5 ⟨rfl, rfl⟩
              go_wp2_with fail
              go_quiet (first | ((go_at_call 20; exact quiet_same (left_tail b q s _ ((hH1).drewN _) hq))) | ((go_at_call 21; exact quiet_same (zeros_tail b q s _ ((hH1).drewN _) hl1))) | ((go_at_call 23; exact quiet_same (refZeros_tail q s _ hl1))))
              go_wp2
              refine ⟨⟨k + 1, q, by omega, hq, by go_num, by go_num, (hH1).drewN _, below_drewN (hB1) _⟩, by simp [intOf]; omega⟩
            · have HI := Lib.hid (fun wx h => mInt_ok w.heap.size b (tailB s q) wx h hb (by rw [hts]; omega) (by rw [num_mid]; omega))
              rw [num_mid, tail_tail] at HI
              generalize numL (s.extract q (q + 8)).data.toList = x at hlt8 HNum hx HI
              have hxb : decide ((4611686018427387904 : Int) ≤ (x : Int)) = false := by rw [decide_eq_false_iff_not]; omega
              have HXW := Lib.hid (show IntKind.u64.wrap (x : Int) = (x : Int) by rw [IntKind.wrap_u64]; omega)
              clear hx hlt8
              refine (HNum.out _).mono ?_
              rintro e w4 ⟨rfl, rfl⟩
              go_wp2_with fail
              refine (HI.out _ hH1).mono ?_
              rintro e w4 ⟨rfl, h4, b4⟩
              have c4 := hB1.trans b4
              clear b4 hB1 hH1
              have hxw := HXW.out
              go_wp2_with fail
              clear hxw
              refine (HNum.out _).mono ?_
              rintro e w5 ⟨rfl, rfl⟩
              go_wp2_with fail
              go_quiet (first | ((go_at_call 20; exact quiet_same (left_tail b (q + 8) s _ ((h4).drewN _) hm))) | ((go_at_call 21; exact quiet_same (zeros_tail b (q + 8) s _ ((h4).drewN _) hl1))) | ((go_at_call 23; exact quiet_same (refZeros_tail (q + 8) s _ hl1))))
              go_wp2
              refine ⟨⟨k + 1, (q + 8), by omega, hm, by go_num, by go_num, (h4).drewN _, below_drewN (c4) _⟩, by simp [intOf]; omega⟩
          · have hge : (s.size : Int) - (q : Int) < (8 : Int) := by omega
            go_wp2_with fail
            go_region
            all_goals go_wp2_with fail
            obtain ⟨hH1, hB1⟩ := behind hH hB #[.int .i64 4, .int .i64 8, .int .i64 8, .int .i64 n] 3
            generalize (wr.alloc (.cells #[.int .i64 4, .int .i64 8, .int .i64 8, .int .i64 n] 3)).drew = wq at hH1 hB1
            clear hH hB
            refine (mInt_short b _ _ hH1 (by rw [hts]; omega)).mono ?_
            rintro e w4 ⟨rfl, rfl⟩
            go_wp2_with fail
            refine (refNumber_none _).mono ?_
            rintro e w5 ⟨rfl, rfl⟩
            go_wp2_with fail
            go_quiet (first | ((go_at_call 20; exact quiet_same (left_tail b q s _ ((hH1).drewN _) hq))) | ((go_at_call 21; exact quiet_same (zeros_tail b q s _ ((hH1).drewN _) hl1))) | ((go_at_call 23; exact quiet_same (refZeros_tail q s _ hl1))))
            go_wp2
            refine ⟨⟨k + 1, q, by omega, hq, by go_num, by go_num, (hH1).drewN _, below_drewN (hB1) _⟩, by simp [intOf]; omega⟩
        · by_cases hn0 : n < 0
          · go_wp2_with fail
            go_region
            all_goals go_wp2_with fail
            obtain ⟨hH1, hB1⟩ := behind hH hB #[.int .i64 4, .int .i64 8, .int .i64 8, .int .i64 n] 3
            generalize (wr.alloc (.cells #[.int .i64 4, .int .i64 8, .int .i64 8, .int .i64 n] 3)).drew = wq at hH1 hB1
            clear hH hB
            refine (take_neg _ n _ hn0).mono ?_
            rintro e w4 ⟨rfl, rfl⟩
            go_wp2_with fail
            go_quiet (first | ((go_at_call 20; exact quiet_same (left_tail b q s _ ((hH1).drewN _) hq))) | ((go_at_call 21; exact quiet_same (zeros_tail b q s _ ((hH1).drewN _) hl1))) | ((go_at_call 23; exact quiet_same (refZeros_tail q s _ hl1))))
            go_wp2
            refine ⟨⟨k + 1, q, by omega, hq, by go_num, by go_num, (hH1).drewN _, below_drewN (hB1) _⟩, by simp [intOf]; omega⟩
          · obtain ⟨m, rfl⟩ := Int.eq_ofNat_of_zero_le (show 0 ≤ n by omega)
            by_cases hm : q + m ≤ s.size
            · have hge : (m : Int) ≤ (s.size : Int) - (q : Int) := by omega
              go_wp2_with fail
              go_region
              all_goals go_wp2_with fail
              obtain ⟨hH1, hB1⟩ := behind hH hB #[.int .i64 4, .int .i64 8, .int .i64 8, .int .i64 (m : Int)] 3
              generalize (wr.alloc (.cells #[.int .i64 4, .int .i64 8, .int .i64 8, .int .i64 (m : Int)] 3)).drew = wq at hH1 hB1
              clear hH hB
              refine (take_ok w.heap.size b _ m _ hH1 hb (by rw [hts]; omega)).mono ?_
              rw [mid_head, tail_tail]
              rintro e w4 ⟨rfl, h4, b4⟩
              have c4 := hB1.trans b4
              clear b4 hB1 hH1
              go_wp2_with fail
              go_quiet (first | ((go_at_call 20; exact quiet_same (left_tail b (q + m) s _ ((h4).drewN _) hm))) | ((go_at_call 21; exact quiet_same (zeros_tail b (q + m) s _ ((h4).drewN _) hl1))) | ((go_at_call 23; exact quiet_same (refZeros_tail (q + m) s _ hl1))))
              go_wp2
              refine ⟨⟨k + 1, (q + m), by omega, hm, by go_num, by go_num, (h4).drewN _, below_drewN (c4) _⟩, by simp [intOf]; omega⟩
            · have hge : (s.size : Int) - (q : Int) < (m : Int) := by omega
              go_wp2_with fail
              go_region
              all_goals go_wp2_with fail
              obtain ⟨hH1, hB1⟩ := behind hH hB #[.int .i64 4, .int .i64 8, .int .i64 8, .int .i64 (m : Int)] 3
              generalize (wr.alloc (.cells #[.int .i64 4, .int .i64 8, .int .i64 8, .int .i64 (m : Int)] 3)).drew = wq at hH1 hB1
              clear hH hB
              refine (take_short b _ (m : Int) _ hH1 (by rw [hts]; omega)).mono ?_
              rintro e w4 ⟨rfl, rfl⟩
              go_wp2_with fail
              go_quiet (first | ((go_at_call 20; exact quiet_same (left_tail b q s _ ((hH1).drewN _) hq))) | ((go_at_call 21; exact quiet_same (zeros_tail b q s _ ((hH1).drewN _) hl1))) | ((go_at_call 23; exact quiet_same (refZeros_tail q s _ hl1))))
              go_wp2
              refine ⟨⟨k + 1, q, by omega, hq, by go_num, by go_num, (hH1).drewN _, below_drewN (hB1) _⟩, by simp [intOf]; omega⟩
      · go_wp2
        go_ret
        exact ⟨rfl, hB⟩
end Go.Proofs.Ytmopopgablakaaa
