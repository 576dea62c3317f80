/-
  ptr.Read: what it answers.
-/
import Derived.Test.YthpifplflhhkiaaQl
namespace Go.Proofs.Ythpifplflhhkiaa
set_option maxRecDepth 100000
open Go.RowKit M

theorem new_one (s : ByteArray) (w : World) :
    Calls Try.prog 22 #[.string s] w fun e w' => e = .returned (.pointer (some ⟨w.heap.size, 0, none⟩)) ∧ Has w' w.heap.size s ∧ Below w.heap.size w w' ∧ w'.heap.size = w.heap.size + 1 := by
  go_enter Try.func22, Try.ntmps22
  go_wp2
  go_ret
  refine ⟨rfl, ⟨?_, ?_, ?_⟩, (Below.refl _ _).alloc (Nat.le_refl _) _, by simp⟩
  · simp
  · exact World.frozen?_alloc_at _ _ _ _ rfl
  · simp
theorem RR.read {w0 w : World} {n k : Nat} {s : ByteArray} (h : RR w0 n s k w) (hk : k < 6) (hs : s.size = 64) :
    Calls Try.prog 23 #[.pointer (some ⟨n + 1, 0, none⟩)] w fun e w' => e = .returned (.tuple #[.int .i64 (numS s k : Nat), .int .i64 0]) ∧
      (Has w' (n + 1) (tailB s (4 * (k + 1))) ∧ Six w' (n + 2) (numF s k) ∧ n + 2 < w'.heap.size ∧ Box w' n noP ∧ Free w' n ∧ Below n w0 w') := by
  refine (mU32_at (n + 1) (tailB s (4 * k)) w h.has (by rw [tailB_size]; omega)).mono ?_
  rintro e w' ⟨rfl, hw⟩
  rw [tail_at] at hw
  exact ⟨by rw [tailB_list]; rfl, h.took hw⟩
theorem RR.start {w w1 : World} {n : Nat} {s : ByteArray} (hn : w.heap.size = n) (hh : Has w1 (n + 1) s) (hz : w1.heap.size = n + 2) (hr : Box w1 n noP) (hf : Free w1 n) (hb : Below n w w1) (ty : TypeId) :
    RR w n s 0 (w1.alloc (.cells #[.int .i64 0, .int .i64 0, .int .i64 0, .int .i64 0, .int .i64 0, .int .i64 0] ty)) := by
  have hb2 : Below w1.heap.size w1 (w1.alloc (.cells #[.int .i64 0, .int .i64 0, .int .i64 0, .int .i64 0, .int .i64 0, .int .i64 0] ty)) := boxed _ _
  refine ⟨hn, ?_, ⟨fun i hi => ?_, fun j => ?_⟩, by simp [hz], hr.next hb2, fun j => ?_, hb.trans (hb2.mono (by omega))⟩
  · rw [Nat.mul_zero, tail_zero]; exact hh.below hb2 hh.2.2
  · rw [← hz, numF, if_neg (Nat.not_lt_zero _)]
    match i, hi with
    | 0, _ => simp
    | 1, _ => simp
    | 2, _ => simp
    | 3, _ => simp
    | 4, _ => simp
    | 5, _ => simp
  · exact World.frozen?_alloc_at _ _ _ _ hz.symm
  · rw [hb2.frozen (p := ⟨n, j, none⟩) (by show n < _; omega)]; exact hf j

/-- Behind the sum: what of the call's own stands. -/
structure KR (w0 : World) (n : Nat) (s : ByteArray) (w : World) : Prop where
  has : Has w (n + 1) (tailB s 56)
  six : ∀ i, i < 6 → w.cell? ⟨n + 2, i, none⟩ = some (.int .i64 (numS s i : Nat))
  lt : n + 2 < w.heap.size
  res : Box w n noP
  free : Free w n
  below : Below n w0 w
theorem KR.next {w0 w w' : World} {n : Nat} {s : ByteArray} (h : KR w0 n s w) (k : Below w.heap.size w w') : KR w0 n s w' := by
  have hl := h.lt
  refine ⟨h.has.below k h.has.2.2, fun i hi => ?_, Nat.lt_of_lt_of_le hl k.size, h.res.next k, fun j => ?_, h.below.trans (k.mono (by omega))⟩
  · rw [k.cell (p := ⟨n + 2, i, none⟩) hl]; exact h.six i hi
  · rw [k.frozen (p := ⟨n, j, none⟩) (by show n < _; omega)]; exact h.free j
theorem RR.sum {w0 w : World} {n : Nat} {s : ByteArray} (h : RR w0 n s 6 w) (hs : s.size = 64) :
    Calls Try.prog 24 #[.pointer (some ⟨n + 1, 0, none⟩)] w fun e w' => e = .returned (.tuple #[.agg #[.int .u64 (readQ (tailB s 24)).a, .int .u64 (readQ (tailB s 24)).b, .int .u64 (readQ (tailB s 24)).c, .int .u64 (readQ (tailB s 24)).d], .int .i64 0]) ∧ KR w0 n s w' := by
  have hl := h.lt
  refine (read_only (n + 1) (tailB s 24) w h.has (by rw [tailB_size]; omega)).mono ?_
  rintro e w' ⟨rfl, h1, h2⟩
  rw [tail_at] at h1
  have c : ∀ j, w'.cell? ⟨n, j, none⟩ = w.cell? ⟨n, j, none⟩ := fun j => h2.cell (p := ⟨n, j, none⟩) (by show n < _; omega) (by show n ≠ n + 1; omega)
  refine ⟨rfl, h1, fun i hi => ?_, Nat.lt_of_lt_of_le hl h2.size, ?_, fun j => ?_, h.below.trans (h2.below (by omega) (by omega))⟩
  · rw [h2.cell (p := ⟨n + 2, i, none⟩) hl (by show n + 2 ≠ n + 1; omega), h.six.at_ i hi, numF, if_pos hi]
  · exact ⟨by rw [c]; exact h.res.c0, by rw [c]; exact h.res.c1, by rw [c]; exact h.res.c2, by rw [c]; exact h.res.c3, by rw [c]; exact h.res.c4, by rw [c]; exact h.res.c5, by rw [c]; exact h.res.c6, by rw [c]; exact h.res.c7,
      by rw [c]; exact h.res.c8, by rw [c]; exact h.res.c9, by rw [c]; exact h.res.c10, by rw [c]; exact h.res.c11, Nat.lt_of_lt_of_le h.res.lt h2.size⟩
  · rw [h2.frozen (p := ⟨n, j, none⟩) (by show n < _; omega) (by show n ≠ n + 1; omega)]; exact h.free j

theorem new_free (w : World) (l : Array Value) (ty : TypeId) : Free (w.alloc (.cells l ty)) w.heap.size := fun _ => World.frozen?_alloc_at _ _ _ _ rfl

set_option maxHeartbeats 2000000 in
theorem read9_any (s : ByteArray) (hs : s.size ≤ maxLen) (w : World) :
    Calls Try.prog 9 #[.string s] w fun e w' => e = .returned (.tuple #[(readV s).val, .int .i64 (readE s)]) ∧ Below w.heap.size w w' := by
  unfold maxLen at hs
  by_cases h1 : s.size < 64
  · have HE : Hid (readE s = 2) := Lib.hid (by rw [readE, if_pos h1])
    have HV : Hid (readV s = noP) := Lib.hid (by rw [readV, HE.out]; rfl)
    go_enter Try.func9, Try.ntmps9
    go_wp2
    refine bodyPost_ret (v := .tuple #[noP.val, .int .i64 2]) (by simp [results, Try.results9, go_sem, Ptr.val, Ptr.cells, noP, zeroQ]) rfl ⟨by rw [HE.out, HV.out], boxed _ _⟩
  by_cases h2 : 64 < s.size
  · have HE : Hid (readE s = 3) := Lib.hid (by rw [readE, if_neg h1, if_pos h2])
    have HV : Hid (readV s = noP) := Lib.hid (by rw [readV, HE.out]; rfl)
    go_enter Try.func9, Try.ntmps9
    go_wp2
    refine bodyPost_ret (v := .tuple #[noP.val, .int .i64 3]) (by simp [results, Try.results9, go_sem, Ptr.val, Ptr.cells, noP, zeroQ]) rfl ⟨by rw [HE.out, HV.out], boxed _ _⟩
  have hsz : s.size = 64 := by omega
  have HS := Lib.hid hsz
  have HEE : Hid (readE s = if zerosB (tailB s 56) = true ∧ numS s 4 < 131072 then 0 else 3) := Lib.hid (by rw [readE, if_neg h1, if_neg h2])
  have KB := Lib.hid (Box.new w noP)
  have KF := Lib.hid (new_free w noP.cells 28)
  clear hsz
  go_enter Try.func9, Try.ntmps9
  go_wp2_with fail
  refine (new_one s _).mono ?_
  rintro e w1 ⟨rfl, hh, b1, hz⟩
  rw [World.size_alloc] at hh b1 hz ⊢
  have H0 := Lib.hid (RR.start rfl hh hz (KB.out.next (by rw [World.size_alloc]; exact b1)) (fun j => by rw [b1.frozen (p := ⟨w.heap.size, j, none⟩) (by show w.heap.size < _; omega)]; exact KF.out j) ((boxed w _).trans (b1.mono (by omega))) 57)
  have HZ := Lib.hid hz
  clear hh b1 hz KB KF
  go_wp2_with fail
  rw [show w1.heap.size = w.heap.size + 2 from HZ.out]
  generalize hn : w.heap.size = n at *
  have HN := Lib.hid hn
  clear hn
  generalize w1.alloc _ = W0 at H0 ⊢
  go_loopw [19] (fun i wr => ∃ k : Nat, k ≤ 6 ∧ i = .int .i64 (k : Int) ∧ Hid (RR w n s k wr)) (fun i _ => 6 - (intOf i).toNat)
  case atStart => exact ⟨0, Nat.zero_le _, rfl, H0⟩
  case round =>
    obtain ⟨k, hk, rfl, HK⟩ := hrel
    by_cases hlt : k < 6
    · go_wp2_with fail
      refine (HK.out.read hlt HS.out).mono ?_
      rintro e w2 ⟨rfl, hw⟩
      have HW := Lib.hid hw
      have hc := hw.2.1.at_ k hlt
      have hf := hw.2.1.free k
      clear hw
      go_wp2
      go_roundw
      case rel => exact ⟨k + 1, by omega, by go_num, Lib.hid (RR.step HN.out hlt HW.out)⟩
      case measure => simp [intOf]; omega
    · obtain rfl : k = 6 := by omega
      go_wp2_with fail
      refine (HK.out.sum HS.out).mono ?_
      rintro e w2 ⟨rfl, hw⟩
      have HP : Hid (readP s = ⟨numS s 0, numS s 1, numS s 2, numS s 3, decide (65536 ≤ (numS s 4 : Int)), (numS s 4 : Int) % 256, (numS s 4 : Int) % 65536 / 256, numS s 5, readQ (tailB s 24)⟩) := Lib.hid rfl
      have l0 := numS_lt s 0
      have l1 := numS_lt s 1
      have l2 := numS_lt s 2
      have l3 := numS_lt s 3
      have l4 := numS_lt s 4
      have l5 := numS_lt s 5
      generalize readQ (tailB s 24) = q at HP ⊢
      have HK3 := Lib.hid (hw.next (boxed w2 (.cells #[.int .u64 q.a, .int .u64 q.b, .int .u64 q.c, .int .u64 q.d] 26)))
      have HQ3 := Lib.hid (HoldsQ.new w2 q 26)
      clear hw HK h1 h2
      go_wp2_with fail
      generalize w2.alloc _ = W3 at HK3 HQ3 ⊢
      generalize w2.heap.size = d at HQ3 ⊢
      obtain ⟨zb, hzb⟩ : ∃ zb, zerosB (tailB s 56) = zb := ⟨_, rfl⟩
      rw [hzb] at HEE
      have HZB := Lib.hid hzb
      clear hzb
      have hts : (tailB s 56).size ≤ maxLen := by rw [tailB_size, HS.out]; decide
      refine (zeros_any (n + 1) (tailB s 56) W3 HK3.out.has hts).mono ?_
      rw [HZB.out]
      clear hts
      rintro e w3 ⟨rfl, rfl⟩
      have e0 := HK3.out.six 0 (by omega)
      have e1 := HK3.out.six 1 (by omega)
      have e2 := HK3.out.six 2 (by omega)
      have e3 := HK3.out.six 3 (by omega)
      have e4 := HK3.out.six 4 (by omega)
      have e5 := HK3.out.six 5 (by omega)
      generalize numS s 0 = m0 at HP e0 l0
      generalize numS s 1 = m1 at HP e1 l1
      generalize numS s 2 = m2 at HP e2 l2
      generalize numS s 3 = m3 at HP e3 l3
      generalize numS s 4 = m4 at HP HEE e4 l4
      generalize numS s 5 = m5 at HP e5 l5
      obtain ⟨c0, c1, c2, c3, c4, c5, c6, c7, c8, c9, c10, c11, hlt⟩ := id HK3.out.res
      have f0 := HK3.out.free 0
      have f1 := HK3.out.free 1
      have f2 := HK3.out.free 2
      have f3 := HK3.out.free 3
      have f4 := HK3.out.free 4
      have f5 := HK3.out.free 5
      have f6 := HK3.out.free 6
      have f7 := HK3.out.free 7
      have f8 := HK3.out.free 8
      have f9 := HK3.out.free 9
      have f10 := HK3.out.free 10
      have f11 := HK3.out.free 11
      cases zb with
      | false =>
        have HE : Hid (readE s = 3) := Lib.hid (by rw [HEE.out]; rfl)
        have HV : Hid (readV s = noP) := Lib.hid (by rw [readV, HE.out]; rfl)
        clear HEE e0 e1 e2 e3 e4 e5
        go_wp2
        change bodyPost _ _ _ _ _ (putB W3 n noP)
        have hp := HK3.out.res.put noP
        have hb : Below w.heap.size w (putB W3 n noP) := by rw [HN.out]; exact HK3.out.below.trans (putB_below (Nat.le_refl _) _)
        generalize putB W3 n noP = W9 at hp hb ⊢
        clear c0 c1 c2 c3 c4 c5 c6 c7 c8 c9 c10 c11 hlt f0 f1 f2 f3 f4 f5 f6 f7 f8 f9 f10 f11
        obtain ⟨c0, c1, c2, c3, c4, c5, c6, c7, c8, c9, c10, c11, hlt⟩ := hp
        refine bodyPost_ret (v := .tuple #[noP.val, .int .i64 3]) (by simp [results, Try.results9, go_sem, c0, c1, c2, c3, c4, c5, c6, c7, c8, c9, c10, c11, Ptr.val, Ptr.cells]) rfl ⟨by rw [HE.out, HV.out], hb⟩
      | true =>
        by_cases hm : 131072 ≤ m4
        · have HE : Hid (readE s = 3) := Lib.hid (by rw [HEE.out, if_neg (by omega)])
          have HV : Hid (readV s = noP) := Lib.hid (by rw [readV, HE.out]; rfl)
          have hd : decide ((131072 : Int) ≤ (m4 : Int)) = true := decide_eq_true (by omega)
          clear HEE e0 e1 e2 e3 e5 l0 l1 l2 l3 l4 l5 hm
          go_wp2
          change bodyPost _ _ _ _ _ (putB W3 n noP)
          have hp := HK3.out.res.put noP
          have hb : Below w.heap.size w (putB W3 n noP) := by rw [HN.out]; exact HK3.out.below.trans (putB_below (Nat.le_refl _) _)
          generalize putB W3 n noP = W9 at hp hb ⊢
          clear c0 c1 c2 c3 c4 c5 c6 c7 c8 c9 c10 c11 hlt f0 f1 f2 f3 f4 f5 f6 f7 f8 f9 f10 f11
          obtain ⟨c0, c1, c2, c3, c4, c5, c6, c7, c8, c9, c10, c11, hlt⟩ := hp
          refine bodyPost_ret (v := .tuple #[noP.val, .int .i64 3]) (by simp [results, Try.results9, go_sem, c0, c1, c2, c3, c4, c5, c6, c7, c8, c9, c10, c11, Ptr.val, Ptr.cells]) rfl ⟨by rw [HE.out, HV.out], hb⟩
        · have HE : Hid (readE s = 0) := Lib.hid (by rw [HEE.out, if_pos ⟨rfl, by omega⟩])
          have HV : Hid (readV s = readP s) := Lib.hid (by rw [readV, HE.out, if_pos rfl])
          clear HEE
          obtain ⟨q0, q1, q2, q3, _, _, _, _⟩ := id HQ3.out
          have hd : decide ((131072 : Int) ≤ (m4 : Int)) = false := decide_eq_false (by omega)
          clear l0 l1 l2 l3 l4 l5 hm
          go_wp2
          generalize hr : (⟨m0, m1, m2, m3, decide (65536 ≤ (m4 : Int)), (m4 : Int) % 256, (m4 : Int) % 65536 / 256, m5, q⟩ : Ptr) = r at HP
          have HW : Hid (∀ P : World → Prop, P (putB W3 n r) → P (putB W3 n ⟨m0, m1, m2, m3, decide (65536 ≤ (m4 : Int)), (m4 : Int) % 256, (m4 : Int) % 65536 / 256, m5, q⟩)) := Lib.hid (fun P h => by rw [hr]; exact h)
          refine HW.out (fun W => bodyPost _ _ _ _ _ W) ?_
          have hp := HK3.out.res.put r
          have hb : Below w.heap.size w (putB W3 n r) := by rw [HN.out]; exact HK3.out.below.trans (putB_below (Nat.le_refl _) _)
          generalize putB W3 n r = W9 at hp hb ⊢
          clear c0 c1 c2 c3 c4 c5 c6 c7 c8 c9 c10 c11 hlt f0 f1 f2 f3 f4 f5 f6 f7 f8 f9 f10 f11 hr e0 e1 e2 e3 e4 e5 q0 q1 q2 q3 HW
          obtain ⟨c0, c1, c2, c3, c4, c5, c6, c7, c8, c9, c10, c11, hlt⟩ := hp
          refine bodyPost_ret (v := .tuple #[r.val, .int .i64 0]) (by simp [results, Try.results9, go_sem, c0, c1, c2, c3, c4, c5, c6, c7, c8, c9, c10, c11, Ptr.val, Ptr.cells]) rfl ⟨by rw [HE.out, HV.out, HP.out], hb⟩
end Go.Proofs.Ythpifplflhhkiaa
