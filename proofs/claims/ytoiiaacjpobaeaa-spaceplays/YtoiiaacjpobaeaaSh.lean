/-
  space: New, Left, Size, Runs, Copy.
-/
import Derived.Test.YtoiiaacjpobaeaaSg
namespace Go.Proofs.Ytoiiaacjpobaeaa
set_option maxRecDepth 100000
open Go.RowKit

theorem new_no (z : Int) (w : World) (h : z < 1 ∨ 65536 < z) :
    Calls Try.prog 10 #[.int .i64 z] w fun e w' => e = .returned (.tuple #[.pointer none, .int .i64 1]) ∧ w = w' := by
  by_cases h1 : z < 1
  · have d1 : decide (z < 1) = true := decide_eq_true h1
    clear h
    go_enter Try.func10, Try.ntmps10
    go_wp2
    go_ret2
    exact ⟨rfl, rfl⟩
  · have d1 : decide (z < 1) = false := decide_eq_false h1
    have d2 : decide (65536 < z) = true := decide_eq_true (by omega)
    clear h
    go_enter Try.func10, Try.ntmps10
    go_wp2
    go_ret2
    exact ⟨rfl, rfl⟩
/-- What New leaves. -/
def NewV (z : Int) (w : World) (e : Ending) (w' : World) : Prop := ∃ b, e = .returned (.tuple #[.pointer (some ⟨b, 0, none⟩), .int .i64 0]) ∧ MapIn w.heap.size noX w' b z [] ∧ Below w.heap.size w w'
theorem mapIn_new (w : World) (z : Int) : MapIn w.heap.size noX (w.alloc (.cells #[.int .i64 z, .slice none 0 0] 52)) w.heap.size z [] :=
  ⟨.slice none 0 0, ⟨heap_alloc_new w _, .inl ⟨rfl, rfl⟩⟩, Nat.le_refl _, (fun h => h), (fun k hk => by cases hk), (fun _ hk => False.elim hk)⟩
theorem new_ok (z : Int) (w : World) (h1 : 1 ≤ z) (h2 : z ≤ 65536) : Calls Try.prog 10 #[.int .i64 z] w (NewV z w) := by
  have d1 : decide (z < 1) = false := decide_eq_false (by omega)
  have d2 : decide (65536 < z) = false := decide_eq_false (by omega)
  go_enter Try.func10, Try.ntmps10
  go_wp2
  go_ret2
  exact ⟨_, rfl, mapIn_new w z, boxed _ _⟩

theorem size_nil (w : World) : Calls Try.prog 17 #[.pointer none] w fun e w' => e = .returned (.int .i64 0) ∧ w = w' := by
  go_enter Try.func17, Try.ntmps17
  go_wp2
  go_ret
  exact ⟨rfl, rfl⟩
theorem left_nil (w : World) : Calls Try.prog 15 #[.pointer none] w fun e w' => e = .returned (.int .i64 0) ∧ w = w' := by
  go_enter Try.func15, Try.ntmps15
  go_wp2
  go_ret
  exact ⟨rfl, rfl⟩
theorem runs_nil (w : World) : Calls Try.prog 16 #[.pointer none] w fun e w' => e = .returned (.slice none 0 0) ∧ w = w' := by
  go_enter Try.func16, Try.ntmps16
  go_wp2
  go_ret
  exact ⟨rfl, rfl⟩
theorem copy_nil (w : World) : Calls Try.prog 14 #[.pointer none] w fun e w' => e = .returned (.pointer none) ∧ w = w' := by
  go_enter Try.func14, Try.ntmps14
  go_wp2
  go_ret
  exact ⟨rfl, rfl⟩

/-- What Clone answers. -/
def CloneV (l : List (Int × Int)) (w : World) (e : Ending) (w' : World) : Prop := ∃ a n c, e = .returned (.slice a n c) ∧ l.length = n ∧ RunsO w.heap.size w' (.slice a n c) l ∧ Below w.heap.size w w'
theorem run_nil (w : World) (a : Addr) (n c : Nat) : (binOp .eql 36 (.slice (some a) n c) (.slice none 0 0)).run Try.prog w = .ok (.bool false) w := by kernel_rfl
theorem row_empty (w : World) : Row (w.alloc (.cells #[] 39)) w.heap.size 0 [] := ⟨[], by rw [heap_alloc_new w]; rfl, by simp⟩
set_option maxHeartbeats 1000000 in
theorem clone_ok (l : List (Int × Int)) (v : Value) (w : World) (h : RunsV w v l) (hm : l.length ≤ 100000) :
    Calls Try.prog 29 #[v] w (CloneV l w) := by
  rcases h with ⟨rfl, rfl⟩ | ⟨g, n, c, rfl, hn, hnc, hcm, hR⟩
  · have hq : (binOp .eql 36 (.slice none 0 0) (.slice none 0 0)).run Try.prog w = .ok (.bool true) w := by kernel_rfl
    go_enter Try.func29, Try.ntmps29
    go_wp2
    go_ret
    exact ⟨_, _, _, rfl, rfl, ⟨.inl ⟨rfl, rfl⟩, fun k hk => by cases hk⟩, Below.refl _ _⟩
  · have hq := run_nil w ⟨g, 0, none⟩ n c
    have HS : Hid (SrcR (w.alloc (.cells #[] 39)) (.slice (some ⟨g, 0, none⟩) n c) l) := Lib.hid (RunsV.src (RunsV.below (.inr ⟨g, n, c, rfl, hn, hnc, hcm, hR⟩) (boxed _ _)))
    have HN := Lib.hid hn
    rw [hn] at hm
    clear hn hR
    go_enter Try.func29, Try.ntmps29
    go_wp2_with (at_builtin; refine wpList_append_app _ rfl _ _ rfl w.heap.size 0 0 n [] l _ rfl rfl (row_empty w) rfl HS.out (by have := HN.out; omega) (by omega) (by unfold maxLen; omega) ?_; intro g2 c2 w2 hA; have HA := Lib.hid hA; clear hA)
    go_wp2
    go_ret
    have hA := HA.out
    have hb : Below w.heap.size w w2 := (boxed w (.cells #[] 39)).trans ⟨hA.kept.os, hA.kept.tape, hA.kept.output, hA.kept.size, fun k hk => hA.kept.block k (by simp; omega) (by simp; omega)⟩
    refine ⟨_, _, _, rfl, HN.out, ⟨.inr ⟨g2, n, c2, rfl, HN.out, hA.le, hA.max, by simpa using hA.row⟩, fun k hk => ?_⟩, hb⟩
    obtain rfl : g2 = k := by simpa [Value.ownBlock] using hk
    rcases hA.alt with ⟨_, e, _⟩ | ⟨_, e, _⟩
    · omega
    · simp at e; omega

section
variable {B : Nat} {x : Nat → Prop} {w : World} {b : Nat} {z : Int} {l : List (Int × Int)}
theorem size_ok (h : MapIn B x w b z l) : Calls Try.prog 17 #[.pointer (some ⟨b, 0, none⟩)] w fun e w' => e = .returned (.int .i64 z) ∧ w = w' := by
  obtain ⟨v, h⟩ := h
  have c0 := h.mv.c0
  clear h
  go_enter Try.func17, Try.ntmps17
  go_wp2
  go_ret
  exact ⟨rfl, rfl⟩
theorem runs_ok (h : MapIn B x w b z l) (hm : l.length ≤ 100000) : Calls Try.prog 16 #[.pointer (some ⟨b, 0, none⟩)] w (CloneV l w) := by
  obtain ⟨v, h⟩ := h
  have c1 := h.mv.c1
  have HC := Lib.hid (clone_ok l v w h.mv.r hm)
  obtain ⟨a, n, c, rfl, hn⟩ := h.slice
  clear h hn
  go_enter Try.func16, Try.ntmps16
  go_wp2_with fail
  refine HC.out.mono ?_
  rintro e w1 ⟨a1, n1, c1', rfl, hl, hO, hb⟩
  have HL := Lib.hid hl
  have HO := Lib.hid hO
  have HB := Lib.hid hb
  clear hl hO hb
  go_wp2
  go_ret
  exact ⟨_, _, _, rfl, HL.out, HO.out, HB.out⟩

set_option maxHeartbeats 1000000 in
theorem left_ok (h : MapIn B x w b z l) (hw : WF z l) (hz : 0 ≤ z ∧ z ≤ 65536) : Calls Try.prog 15 #[.pointer (some ⟨b, 0, none⟩)] w fun e w' => e = .returned (.int .i64 (z - sumR l)) ∧ Below w.heap.size w w' := by
  obtain ⟨v, h⟩ := h
  have c0 := h.mv.c0
  have c1 := h.mv.c1
  obtain ⟨z0, z1⟩ := hz
  have hll := hw.len ⟨z0, z1⟩
  obtain ⟨a, n, c, rfl, hn⟩ := h.slice
  have hn2 : n ≤ 65536 := by omega
  have HR : Hid (RunsV w (.slice a n c) l) := Lib.hid h.mv.r
  have HW := Lib.hid hw
  have HN := Lib.hid hn
  clear h hw hn hll
  go_enter Try.func15, Try.ntmps15
  go_wp2_with fail
  go_loopw [3, 17] (fun s i wr => ∃ (k : Nat) (y : Int), k ≤ n ∧ i = .int .i64 (k : Int) ∧ s = .int .i64 y ∧ Hid (y = z - sumR (l.take k)) ∧ Hid (Below w.heap.size w wr)) (fun _ i _ => n - (intOf i).toNat)
  case atStart => exact ⟨0, z, Nat.zero_le _, rfl, rfl, Lib.hid (by simp [sumR]), Lib.hid (Below.refl _ _)⟩
  case round =>
    obtain ⟨k, y, hk, rfl, rfl, HY, HB⟩ := hrel
    by_cases hlt : k < n
    · have hkl : k < l.length := by rw [HN.out]; exact hlt
      have hsum := HW.out.sum_take z0 k
      have hsum1 := HW.out.sum_take z0 (k + 1)
      have hst := sumR_take hkl
      rcases HR.out with ⟨e, _⟩ | ⟨g, n', c', e, _, _, _, hRow⟩
      · cases e; omega
      · cases e
        obtain ⟨r0, r1⟩ := (hRow.is k hkl).below hRow.lt HB.out
        have o1 := (HW.out.ok _ (List.getElem_mem hkl)).2
        have y0 : 0 ≤ y ∧ y ≤ z := by have := HY.out; omega
        have HST := Lib.hid hst
        have hy2 : 0 ≤ y - l[k].2 := by have := HY.out; rw [hst] at hsum1; omega
        generalize l[k].1 = rx at *
        generalize l[k].2 = ry at *
        obtain ⟨y0, y1⟩ := y0
        obtain ⟨o1, o2⟩ := o1
        clear hsum hsum1 hst hRow hkl
        go_wp2_with fail
        go_roundw
        case rel => exact ⟨k + 1, y - ry, by omega, by go_num, rfl, Lib.hid (by rw [HST.out, HY.out]; omega), Lib.hid (next HB.out (boxed _ _))⟩
        case measure => simp [intOf]; omega
    · go_wp2
      go_ret
      refine ⟨?_, HB.out⟩
      rw [HY.out, List.take_of_length_le (by have := HN.out; omega)]
      rfl

/-- What Copy leaves: another map. -/
def CopyV (z : Int) (l : List (Int × Int)) (w : World) (e : Ending) (w' : World) : Prop := ∃ b, e = .returned (.pointer (some ⟨b, 0, none⟩)) ∧ MapIn w.heap.size noX w' b z l ∧ Below w.heap.size w w'
theorem mapIn_copy {w w1 : World} {z : Int} {v : Value} {l : List (Int × Int)} (h : RunsO w.heap.size w1 v l) (hb : Below w.heap.size w w1) : MapIn w.heap.size noX (w1.alloc (.cells #[.int .i64 z, v] 52)) w1.heap.size z l :=
  ⟨v, ⟨heap_alloc_new w1 _, h.r.below (boxed _ _)⟩, hb.size, (fun h => h), (fun k hk => ⟨h.own k hk, fun h => h⟩), (fun _ hk => False.elim hk)⟩
set_option maxHeartbeats 1000000 in
theorem copy_ok (h : MapIn B x w b z l) (hm : l.length ≤ 100000) : Calls Try.prog 14 #[.pointer (some ⟨b, 0, none⟩)] w (CopyV z l w) := by
  obtain ⟨v, h⟩ := h
  have c0 : w.drew.cell? ⟨b, 0, none⟩ = some (.int .i64 z) := h.mv.c0
  have c1 : w.drew.cell? ⟨b, 1, none⟩ = some v := h.mv.c1
  have HC := Lib.hid (clone_ok l v w.drew (h.mv.r.below (Below.refl _ w).drew) hm)
  clear h
  go_enter Try.func14, Try.ntmps14
  go_wp2_with fail
  go_region_held3 (fun W => W.cell? ⟨b, 0, none⟩ = some (.int .i64 z) ∧ W.cell? ⟨b, 1, none⟩ = some v)
    (first | exact ⟨c0, c1⟩ | exact ⟨k0, k1⟩ | exact ⟨cell_next k0 (boxed _ _), cell_next k1 (boxed _ _)⟩)
    (first | (go_at_call 29; refine HC.out.mono ?_; rintro e w1 ⟨a1, n1, c1', rfl, hl, hO, hb⟩; have k0 := cell_next c0 hb; have k1 := cell_next c1 hb; have HO := Lib.hid hO; have HB := Lib.hid hb; clear hl hO hb))
  all_goals
    go_wp2
    go_ret
    have hb := (Below.refl w.heap.size w).drew.trans HB.out
    exact ⟨_, rfl, mapIn_copy (w := w) HO.out hb, next hb (boxed _ _)⟩
end
end Go.Proofs.Ytoiiaacjpobaeaa
