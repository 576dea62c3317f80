/-
  The walk of polderlaw01.LeCuts: it returns true, and writes nothing that was there.
-/
import Derived.Test.YtmopopgablakaaaLawLays
import Derived.Test.YtmopopgablakaaaKit
namespace Go.Proofs.Ytmopopgablakaaa
open Go.RowKit M

theorem Has.drewN {w : World} {b : Nat} {s : ByteArray} (h : Has w b s) (n : Nat) : Has (w.drewN n) b s := by
  obtain ⟨h1, h2, h3⟩ := h
  exact ⟨by simpa using h1, by simpa using h2, by simpa using h3⟩

set_option maxHeartbeats 1000000 in
theorem walk_LeCuts (s : ByteArray) (a : Option Addr) (len cap : Nat) (zs : List Int) (w : World) (hs : s.size ≤ maxLen) (hr : IsRow .u8 w a len cap zs) :
    Calls Try.prog 8 #[.string s, .slice a len cap] w fun e w' => e = .returned (.bool true) ∧ Below w.heap.size w w' := by
  have hlen := hr.len_le
  unfold maxLen at hs hlen
  by_cases hl : 3000 < s.size ∨ 100 < len
  · rcases hl with hl | hl
    · go_enter Try.func8, Try.ntmps8
      go_wp2_with fail
      refine (awake_any _).mono ?_
      rintro e w1 ⟨rfl, b1⟩
      go_wp2_with fail
      refine (awake_any _).mono ?_
      rintro e w2 ⟨rfl, b2⟩
      go_wp2
      go_ret
      exact ⟨rfl, early b1 b2⟩
    · by_cases hl2 : 3000 < s.size
      all_goals
        go_enter Try.func8, Try.ntmps8
        go_wp2_with fail
        refine (awake_any _).mono ?_
        rintro e w1 ⟨rfl, b1⟩
        go_wp2_with fail
        refine (awake_any _).mono ?_
        rintro e w2 ⟨rfl, b2⟩
        go_wp2
        go_ret
        exact ⟨rfl, early b1 b2⟩
  · obtain ⟨hl1, hl2⟩ : ¬ 3000 < s.size ∧ ¬ 100 < len := ⟨fun h => hl (.inl h), fun h => hl (.inr h)⟩
    clear hl
    have HR := Lib.hid hr
    clear hr
    go_enter Try.func8, Try.ntmps8
    go_wp2_with fail
    refine (awake_any _).mono ?_
    rintro e w1 ⟨rfl, c1⟩
    go_wp2_with fail
    refine (new_any s _).mono ?_
    rintro e w2 ⟨rfl, h2, b2⟩
    have c2 := early c1 b2
    have hb : w.heap.size ≤ w1.heap.size := c1.size
    clear b2 c1
    generalize w1.heap.size = b at h2 hb
    go_wp2_with fail
    go_loopw [6, 7] (fun g i wx => ∃ (k : Nat) (G S : ByteArray), k ≤ len ∧ g = .string G ∧ i = .int .i64 k ∧ G.size + S.size ≤ 3000 ∧ Hid (G.data.toList ++ S.data.toList = s.data.toList) ∧ Has wx b S ∧ Below w.heap.size w wx) (fun _ i _ => len - (intOf i).toNat)
    case atStart => exact ⟨0, ⟨#[]⟩, s, Nat.zero_le _, rfl, rfl, by show 0 + s.size ≤ 3000; omega, Lib.hid rfl, h2, c2⟩
    case round =>
      obtain ⟨k, G, S, hk, rfl, rfl, hGS, HG, hH, hB⟩ := hrel
      by_cases hlt : k < len
      · obtain ⟨ab, off, rfl, hab, hcell, hwf⟩ := HR.out.at_ k hlt
        have hcw : wr.cell? ⟨ab, off + k, none⟩ = some (.int .u8 (zs.getD k 0)) := by rw [hB.cell (p := ⟨ab, off + k, none⟩) hab]; exact hcell
        obtain ⟨z0, z1⟩ := bounds_u8 hwf
        generalize zs.getD k 0 = z at hcw z0 z1
        clear hcell hwf
        go_wp2_with fail
        go_quiet ((go_at_call 20; exact quiet_same (left_any b S _ (hH.drewN _))))
        have hHq := hH.drewN nq
        have hBq : Below w.heap.size w (wr.drewN nq) := below_drewN hB nq
        generalize wr.drewN nq = wq at hHq hBq
        clear hH hB hcw
        go_wp2_with fail
        obtain ⟨m, hm⟩ := Int.eq_ofNat_of_zero_le (show 0 ≤ min z (S.size : Int) by omega)
        have hmS : m ≤ S.size := by omega
        rw [hm]
        clear hm z0 z1
        refine (take_ok w.heap.size b S m _ hHq hb hmS).mono ?_
        have hT : (headB S m).size = m := headB_size S m hmS
        have hTl : Hid ((headB S m).data.toList ++ (tailB S m).data.toList = S.data.toList) := Lib.hid (by rw [headB_list, tailB_list, List.take_append_drop])
        have hZ : (tailB S m).size = S.size - m := tailB_size S m
        generalize headB S m = T at hT hTl
        rintro e w4 ⟨rfl, h4, b4⟩
        have c4 := hBq.trans b4
        clear b4 hBq hHq
        generalize tailB S m = S' at hTl hZ h4
        have HZ := Lib.hid hZ
        clear hZ
        go_wp2
        refine ⟨⟨k + 1, G ++ T, S', by omega, rfl, by go_num, ?_, Lib.hid ?_, h4, c4⟩, by simp [intOf]; omega⟩
        · rw [ByteArray.size_append, HZ.out, hT]; omega
        · rw [← HG.out, ← hTl.out]; simp
      · go_wp2_with fail
        refine (left_any b S _ hH).mono ?_
        rintro e w4 ⟨rfl, rfl⟩
        go_wp2_with fail
        refine (take_ok w.heap.size b S S.size _ hH hb (Nat.le_refl _)).mono ?_
        have e1 : headB S S.size = S := ext_list (by rw [headB_list, List.take_of_length_le (by rw [← size_list]; omega)])
        rw [e1]; clear e1
        rintro e w5 ⟨rfl, h5, b5⟩
        have e2 : tailB S S.size = ⟨#[]⟩ := ext_list (by rw [tailB_list, List.drop_of_length_le (by rw [← size_list]; omega)])
        rw [e2] at h5; clear e2
        have c5 := hB.trans b5
        clear b5 hB hH
        have hcat : G ++ S = s := ext_list (by rw [ByteArray.data_append, Array.toList_append]; exact HG.out)
        go_wp2_with fail
        refine (left_any b _ _ h5).mono ?_
        rintro e w6 ⟨rfl, rfl⟩
        go_wp2
        go_ret
        exact ⟨rfl, c5⟩
end Go.Proofs.Ytmopopgablakaaa
