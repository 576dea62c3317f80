/-
  fletch.Words: the function that it answers hands out the text's words, one by one.
-/
import Derived.Test.YtomdfgfappoiiaaRng
import Derived.Test.YtomdfgfappoiiaaFm
import Derived.Test.YtomdfgfappoiiaaMeth
import Derived.Test.YtomdfgfappoiiaaRef2
import Derived.Shelf.Abstract
import Derived.Shelf.RegionOpen
import Derived.OwnWalkIn
import Derived.TacticsInMore
import Derived.LoopNIn
import Derived.LoopIn
namespace Go.Proofs.Ytomdfgfappoiiaa
open Go.RowKit Go.Shelf M
attribute [local go_sem] Oper.semAt_some

/-- A text's words: its bytes padded, four by four. -/
def wordsB (s : ByteArray) : List Nat := wordsL (padK s 4).data.toList

/-- How many bytes are left in a Bytes. -/
def leftIn (b : Nat) (w : World) : Nat := match w.cell? ⟨b, 0, none⟩ with | some (.string s) => s.size | _ => 0
theorem leftIn_has {w : World} {b : Nat} {s : ByteArray} (h : Has w b s) : leftIn b w = s.size := by rw [leftIn, h.1]
theorem pad4_size (s : ByteArray) : (padK s 4).size % 4 = 0 := by
  rw [padK_size]; exact mod_stop s.size 4 (by omega)
theorem Has.since {w w' : World} {b B : Nat} {s : ByteArray} (h : Has w b s) (hs : Since B w w') (hB : B ≤ b) : Has w' b s :=
  ⟨by rw [hs.cell (p := ⟨b, 0, none⟩) hB h.2.2]; exact h.1, by rw [hs.frozen (p := ⟨b, 0, none⟩) hB h.2.2]; exact h.2.1, Nat.lt_of_lt_of_le h.2.2 hs.size⟩
theorem tail_at (p : ByteArray) (a b : Nat) : tailB (tailB p a) b = tailB p (a + b) := ext_list (by rw [tailB_list, tailB_list, tailB_list, List.drop_drop])
theorem tail_zero (p : ByteArray) : tailB p 0 = p := ext_list (by rw [tailB_list]; rfl)

theorem words_any (s : ByteArray) (w : World) :
    Calls Try.prog 19 #[.string s] w fun e w' => e = .returned (.func (.func 26) #[] #[.pointer (some ⟨w.heap.size, 0, none⟩)]) ∧ w.alloc (.cells #[.string s] 9) = w' := by
  go_enter Try.func19, Try.ntmps19
  go_wp2
  go_ret
  exact ⟨rfl, rfl⟩

set_option maxHeartbeats 1000000 in
theorem words1_hands (n : Nat) (hn : 1 ≤ n) (bs : Nat) (s : ByteArray) (w : World) (hbs : w.cell? ⟨bs, 0, none⟩ = some (.string s)) (hlt : bs < w.heap.size) (hs : s.size ≤ 1099511627776) :
    Hands Fence.wide n Try.prog 26 #[.pointer (some ⟨bs, 0, none⟩)] (fun x : Nat => Value.int .u64 x) (wordsB s) w := fun l J Jx W hW hJ hJx hY h0 => by
  refine callsIn_of_wp Try.func26 rfl trivial ?_ rfl
  simp only [Try.ntmps26, List.size_toArray, List.length_cons, List.length_nil, Nat.reduceAdd, Nat.reduceSub, Array.replicate_succ, Array.replicate_zero, List.push_toArray, List.append_toArray, List.nil_append, List.cons_append]
  have hc : W.cell? ⟨bs, 0, none⟩ = some (.string s) := (hW.cell (p := ⟨bs, 0, none⟩) hlt).trans hbs
  have HY := Lib.hid hY
  have HJ := Lib.hid hJ
  have HJx := Lib.hid hJx
  clear hY hJ hJx
  gi_wp2_with fail
  refine ⟨trivial, ?_⟩
  refine (callsIn_wide.2 (pad_pos s 4 _ hs (by omega) (by omega))).mono ?_
  rintro e w1 ⟨rfl, b1⟩
  gi_wp2_with fail
  refine ⟨trivial, ?_⟩
  refine (callsIn_wide.2 (new_any (padK s 4) _)).mono ?_
  rintro e w2 ⟨rfl, h2, b2⟩
  have hb : W.heap.size ≤ w1.heap.size := b1.size
  have hJ2 : J 0 w2 := HJ.out 0 W w2 h0 (b1.trans (b2.mono b1.size))
  have hp4 := pad4_size s
  obtain ⟨N, hN⟩ : ∃ N, (padK s 4).size = 4 * N := ⟨(padK s 4).size / 4, by omega⟩
  have hNN : (wordsB s).length = N := by rw [wordsB, wordsL_length, ← size_list, hN]; omega
  have HW : Hid (∀ k, k < N → (wordsB s)[k]? = some (numL ((tailB (padK s 4) (4 * k)).data.toList.take 4))) := Lib.hid (fun k hk => by
    rw [tailB_list]; exact wordsL_at (by rw [← size_list, hN]; omega))
  have HN := Lib.hid hN
  have HNN := Lib.hid hNN
  clear hN hNN hp4 b1 b2 h0 hW hc hbs
  generalize w1.heap.size = b at h2 hb
  gi_wp2_with fail
  gi_loopw [4] (fun _ wr => ∃ k : Nat, k ≤ N ∧ Has wr b (tailB (padK s 4) (4 * k)) ∧ J k wr) (fun _ wr => leftIn b wr)
  case atStart => exact ⟨0, Nat.zero_le _, by rw [tail_zero]; exact h2, hJ2⟩
  case round =>
    obtain ⟨k, hk, hH, hJk⟩ := hrel
    have HL := Lib.hid (leftIn_has hH)
    by_cases hlt2 : k < N
    · obtain ⟨m, hm⟩ : ∃ m, (tailB (padK s 4) (4 * k)).size = m := ⟨_, rfl⟩
      have hm4 : 4 ≤ m := by rw [← hm, tailB_size, HN.out]; omega
      have HM := Lib.hid hm
      have hleft := left_any b _ wr hH
      rw [hm] at hleft
      have hu := mU32_ok W.heap.size b _ wr hH hb (by rw [hm]; exact hm4)
      clear hm
      rw [tail_at, show 4 * k + 4 = 4 * (k + 1) by omega] at hu
      have hx := HW.out k hlt2
      have hxl : numL ((tailB (padK s 4) (4 * k)).data.toList.take 4) < 4294967296 := by rw [tailB_list]; exact wordAt_lt _ k
      generalize numL ((tailB (padK s 4) (4 * k)).data.toList.take 4) = x at hu hx hxl
      have HX := Lib.hid hx
      have HU := Lib.hid hu
      have HE := Lib.hid hleft
      clear hx hu hleft
      gi_wp2_with fail
      refine ⟨trivial, ?_⟩
      refine (callsIn_wide.2 HE.out).mono ?_
      rintro e w3 ⟨rfl, rfl⟩
      gi_wp2_with fail
      refine ⟨trivial, ?_⟩
      refine (callsIn_wide.2 HU.out).mono ?_
      rintro e w3 ⟨rfl, h3, b3⟩
      obtain ⟨fn, tmps, assign, body, hy, hR⟩ := HY.out k x w3 HX.out (HJ.out k wr w3 hJk b3)
      have HRR := Lib.hid hR
      clear hR
      gi_wp2_with fail
      refine HRR.out.mono ?_
      rintro e w4 (⟨rfl, hJ4, hs4⟩ | ⟨rfl, hx4⟩)
      · have h4 := h3.since hs4 hb
        have HL4 := Lib.hid (leftIn_has h4)
        gi_wp2
        go_roundw
        case rel => exact ⟨k + 1, by omega, h4, hJ4⟩
        case measure =>
          rw [HL4.out, HL.out, tailB_size, tailB_size, HN.out]; omega
      · gi_wp2
        refine bodyPost_ret (results_none rfl _ _ _) rfl ?_
        exact ⟨⟨_, rfl⟩, .inr ⟨k + 1, by rw [HNN.out]; omega, hx4⟩⟩
    · have hleft := left_any b _ wr hH
      rw [tailB_size, HN.out, show 4 * N - 4 * k = 0 by omega] at hleft
      have HE := Lib.hid hleft
      clear hleft
      gi_wp2_with fail
      refine ⟨trivial, ?_⟩
      refine (callsIn_wide.2 HE.out).mono ?_
      rintro e w3 ⟨rfl, rfl⟩
      gi_wp2
      go_end0
      exact ⟨⟨_, rfl⟩, .inl (by rw [HNN.out, show N = k by omega]; exact hJk)⟩
end Go.Proofs.Ytomdfgfappoiiaa
