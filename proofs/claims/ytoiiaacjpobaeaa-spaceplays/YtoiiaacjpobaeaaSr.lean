/-
  The document's marks (polderref11): Runs, walked.
-/
import Derived.Test.YtoiiaacjpobaeaaSq
import Derived.StillTailTactics
namespace Go.Proofs.Ytoiiaacjpobaeaa
set_option maxRecDepth 100000
open Go.RowKit

/-- What Runs answers. -/
def RunsA (l : List (Int × Int)) (w : World) (e : Ending) (w' : World) : Prop := ∃ v, e = .returned v ∧ OwnP w.heap.size w' v l ∧ Below w.heap.size w w'
set_option maxHeartbeats 2000000 in
theorem refRuns_ok {w : World} {g N c : Nat} {us : List Bool} {z : Int} {l : List (Int × Int)} (hM : MarksAt w g N us) (hU : Um z l us) (hw : WF z l) (hN : N ≤ 300) :
    Calls Try.prog 22 #[.slice (some ⟨g, 0, none⟩) N c] w (RunsA l w) := by
  have HM := Lib.hid hM
  have HE : Hid (∀ m, RunTo us N m → m = l) := Lib.hid fun m h => by rw [← hM.len] at h; exact h.all hU hw
  clear hM hU hw
  go_enter Try.func22, Try.ntmps22
  go_wp2_with fail
  go_loopw [3, 4] (fun v i wr => ∃ (k : Nat) (m : List (Int × Int)), k ≤ N ∧ i = .int .i64 (k : Int) ∧ Hid (OwnP w.heap.size wr v m) ∧ Hid (RunTo us k m) ∧ Hid (Below w.heap.size w wr)) (fun _ i _ => N - (intOf i).toNat)
  case atStart => exact ⟨0, [], Nat.zero_le _, rfl, Lib.hid (World.ownsRow_nil _ _ _ _), Lib.hid (RunTo.zero us), Lib.hid (Below.refl _ _)⟩
  case round =>
    obtain ⟨k, m, hk, rfl, HO, HR, HB⟩ := hrel
    by_cases hlt : k < N
    · have hkl : k < us.length := by have := HM.out.len; omega
      have c0 := (HM.out.next HB.out).at_ k hkl
      have hsz := HB.out.size
      have HML : Hid (m.length ≤ 100000) := Lib.hid (by have := HR.out.len; omega)
      obtain ⟨u, hu⟩ : ∃ u, us.getD k false = u := ⟨_, rfl⟩
      have hu2 : us[k] = u := by rw [← hu, List.getD_eq_getElem?_getD, List.getElem?_eq_getElem hkl]; rfl
      rw [hu2] at c0
      have HUK := Lib.hid hu
      clear hu hu2 hkl
      cases u with
      | false =>
        go_wp2
        go_roundw
        case rel => exact ⟨k + 1, m, by omega, by go_num, HO, Lib.hid (HR.out.no HUK.out), HB⟩
        case measure => simp [intOf]; omega
      | true =>
        by_cases hk0 : k = 0
        · have dk : ((k : Int) == 0) = true := by simpa using hk0
          have HNW := Lib.hid (HR.out.new HUK.out (.inl hk0))
          clear hk0
          go_wp2_with (at_builtin; refine wpList_append_pair _ rfl _ _ rfl w.heap.size _ m ((k : Int), 0) _ 1 rfl rfl (HO.out.below (boxed _ _)) ⟨by simp, by simp⟩ (by simp; omega) HML.out ?_; intro v4 w4 hO4 b4; obtain ⟨g3, n3, c3, hv4, hln, hgB, hgl, his, hfz⟩ := hO4.at_ (by simp); subst hv4; have HO4 := Lib.hid hO4; have HB4 := Lib.hid (HB.out.trans (((boxed wr _).mono hsz).trans b4)); have HLN := Lib.hid hln; have HIS := Lib.hid his; have HFZ := Lib.hid hfz; clear hO4 b4 hln his hfz)
          have hn3 : n3 ≤ 1000 := by have := HLN.out; have := HR.out.len; simp at *; omega
          obtain ⟨mm, hmm⟩ : ∃ mm, m.length = mm := ⟨_, rfl⟩
          have hnm : n3 = mm + 1 := by have := HLN.out; rw [List.length_append] at this; simp at this; omega
          have r1 : w4.drew.cell? ⟨g3, mm * 2 + 1, none⟩ = some (.int .i64 (0 : Int)) := by
            have := (HIS.out m.length (by simp)).c1
            rw [List.getElem_append_right (Nat.le_refl _)] at this
            simp at this
            rw [hmm] at this
            exact this
          have fz : w4.drew.frozen? ⟨g3, mm * 2 + 1, none⟩ = false := HFZ.out _
          have i9 : IntKind.i64.wrap ((n3 : Int) - 1) = (mm : Int) := by rw [IntKind.wrap_i64]; omega
          have i8 : IntKind.i64.wrap ((0 : Int) + 1) = 1 := by rw [IntKind.wrap_i64]; omega
          have i7 : mm < n3 := by omega
          have HPM := Lib.hid hmm
          clear hmm hnm
          go_wp2_with fail
          refine wp_region_still_tail 10 (by kernel_rfl) (by kernel_rfl) ?_
          simp only [List.take_succ_cons, List.take_zero, List.drop_succ_cons, List.drop_zero]
          repeat still_step
          refine wpStill_nil ?_
          have hL := (HO4.out.below (Below.refl _ w4).drew).last mm HPM.out (1)
          go_wp2_with fail
          go_roundw
          case rel => exact ⟨k + 1, _, by omega, by go_num, Lib.hid hL.1, HNW, Lib.hid ((HB4.out.trans (Below.refl _ w4).drew).trans hL.2)⟩
          case measure => simp [intOf]; omega
        · have dk : ((k : Int) == 0) = false := by simpa using hk0
          obtain ⟨j, hj⟩ : ∃ j : Nat, k = j + 1 := ⟨k - 1, by omega⟩
          have hj1 : (k : Int) - 1 = (j : Int) := by omega
          have hjN : j < N := by omega
          have c1 := (HM.out.next HB.out).at_ j (by have := HM.out.len; omega)
          obtain ⟨u', hu'⟩ : ∃ u', us.getD (k - 1) false = u' := ⟨_, rfl⟩
          have hjl : j < us.length := by have := HM.out.len; omega
          have hu2 : us[j] = u' := by rw [← hu', show k - 1 = j by omega, List.getD_eq_getElem?_getD, List.getElem?_eq_getElem hjl]; rfl
          rw [hu2] at c1
          have HUJ := Lib.hid hu'
          have HK0 := Lib.hid (show 0 < k by omega)
          clear hu' hu2 hj hk0 hjl
          cases u' with
          | false =>
            have HNW := Lib.hid (HR.out.new HUK.out (.inr HUJ.out))
            go_wp2_with (at_builtin; refine wpList_append_pair _ rfl _ _ rfl w.heap.size _ m ((k : Int), 0) _ 1 rfl rfl (HO.out.below (boxed _ _)) ⟨by simp, by simp⟩ (by simp; omega) HML.out ?_; intro v4 w4 hO4 b4; obtain ⟨g3, n3, c3, hv4, hln, hgB, hgl, his, hfz⟩ := hO4.at_ (by simp); subst hv4; have HO4 := Lib.hid hO4; have HB4 := Lib.hid (HB.out.trans (((boxed wr _).mono hsz).trans b4)); have HLN := Lib.hid hln; have HIS := Lib.hid his; have HFZ := Lib.hid hfz; clear hO4 b4 hln his hfz)
            have hn3 : n3 ≤ 1000 := by have := HLN.out; have := HR.out.len; simp at *; omega
            obtain ⟨mm, hmm⟩ : ∃ mm, m.length = mm := ⟨_, rfl⟩
            have hnm : n3 = mm + 1 := by have := HLN.out; rw [List.length_append] at this; simp at this; omega
            have r1 : w4.drew.cell? ⟨g3, mm * 2 + 1, none⟩ = some (.int .i64 (0 : Int)) := by
              have := (HIS.out m.length (by simp)).c1
              rw [List.getElem_append_right (Nat.le_refl _)] at this
              simp at this
              rw [hmm] at this
              exact this
            have fz : w4.drew.frozen? ⟨g3, mm * 2 + 1, none⟩ = false := HFZ.out _
            have i9 : IntKind.i64.wrap ((n3 : Int) - 1) = (mm : Int) := by rw [IntKind.wrap_i64]; omega
            have i8 : IntKind.i64.wrap ((0 : Int) + 1) = 1 := by rw [IntKind.wrap_i64]; omega
            have i7 : mm < n3 := by omega
            have HPM := Lib.hid hmm
            clear hmm hnm
            go_wp2_with fail
            refine wp_region_still_tail 10 (by kernel_rfl) (by kernel_rfl) ?_
            simp only [List.take_succ_cons, List.take_zero, List.drop_succ_cons, List.drop_zero]
            repeat still_step
            refine wpStill_nil ?_
            have hL := (HO4.out.below (Below.refl _ w4).drew).last mm HPM.out (1)
            go_wp2_with fail
            go_roundw
            case rel => exact ⟨k + 1, _, by omega, by go_num, Lib.hid hL.1, HNW, Lib.hid ((HB4.out.trans (Below.refl _ w4).drew).trans hL.2)⟩
            case measure => simp [intOf]; omega
          | true =>
            obtain ⟨p, x, y, hmp, y0, y1, hmo⟩ := HR.out.more HK0.out HUJ.out HUK.out
            subst hmp
            obtain ⟨g3, n3, c3, hv4, hln, hgB, hgl, his, hfz⟩ := HO.out.at_ (by simp)
            subst hv4
            have hn3 : n3 ≤ 1000 := by rw [← hln]; have := HR.out.len; omega
            have HLN := Lib.hid hln
            have HIS := Lib.hid his
            have HFZ := Lib.hid hfz
            have HMO := Lib.hid hmo
            clear hln his hfz hmo
            obtain ⟨mm, hmm⟩ : ∃ mm, p.length = mm := ⟨_, rfl⟩
            have hnm : n3 = mm + 1 := by have := HLN.out; rw [List.length_append] at this; simp at this; omega
            have r1 : wr.drew.cell? ⟨g3, mm * 2 + 1, none⟩ = some (.int .i64 y) := by
              have := (HIS.out p.length (by simp)).c1
              rw [List.getElem_append_right (Nat.le_refl _)] at this
              simp at this
              rw [hmm] at this
              exact this
            have fz : wr.drew.frozen? ⟨g3, mm * 2 + 1, none⟩ = false := HFZ.out _
            have i9 : IntKind.i64.wrap ((n3 : Int) - 1) = (mm : Int) := by rw [IntKind.wrap_i64]; omega
            have i8 : IntKind.i64.wrap (y + 1) = y + 1 := by rw [IntKind.wrap_i64]; omega
            have i7 : mm < n3 := by omega
            have HPM := Lib.hid hmm
            clear hmm hnm
            go_wp2_with fail
            refine wp_region_still_tail 10 (by kernel_rfl) (by kernel_rfl) ?_
            simp only [List.take_succ_cons, List.take_zero, List.drop_succ_cons, List.drop_zero]
            repeat still_step
            refine wpStill_nil ?_
            have hL := (HO.out.below (Below.refl _ wr).drew).last mm HPM.out (y + 1)
            go_wp2_with fail
            go_roundw
            case rel => exact ⟨k + 1, _, by omega, by go_num, Lib.hid hL.1, HMO, Lib.hid ((HB.out.trans (Below.refl _ wr).drew).trans hL.2)⟩
            case measure => simp [intOf]; omega
    · obtain rfl : k = N := by omega
      have hm := HE.out m HR.out
      subst hm
      go_wp2
      go_ret
      exact ⟨_, rfl, HO.out, HB.out⟩
end Go.Proofs.Ytoiiaacjpobaeaa
