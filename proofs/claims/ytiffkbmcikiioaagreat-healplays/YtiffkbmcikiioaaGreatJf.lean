/-
  Fw, Frm, joined.
-/
import Derived.Test.YtiffkbmcikiioaaGreatY10
import Derived.StillTailTactics
/-
  A text's words, padded and joined; the first number of a sum; zero words (no call is walked here).
-/
namespace Go.Proofs.YtiffkbmcikiioaaGreat
set_option maxRecDepth 100000
open Go.RowKit M

theorem early2f {w w1 w2 : World} (b1 : Below w.heap.size w w1) (b2 : Below w1.heap.size w1 w2) : Below w.heap.size w w2 := b1.trans (b2.mono b1.size)
theorem gap4_zero (n : Nat) (h : n % 4 = 0) : gap n 4 = 0 := by rw [gap, h]
theorem pad4_same (s : ByteArray) (h : s.size % 4 = 0) : padK s 4 = s := ext_list (by rw [padK_list, gap4_zero _ h]; simp)
theorem pad4_pad (s : ByteArray) : padK (padK s 4) 4 = padK s 4 := pad4_same _ (pad4_size s)
theorem wordsB_pad (s : ByteArray) : wordsB (padK s 4) = wordsB s := by rw [wordsB, wordsB, pad4_pad]
theorem append_data (s t : ByteArray) : (s ++ t).data.toList = s.data.toList ++ t.data.toList := by simp
theorem append_size (s t : ByteArray) : (s ++ t).size = s.size + t.size := by rw [size_list, append_data, List.length_append, ← size_list, ← size_list]
theorem wordsB_append (s t : ByteArray) (h : s.size % 4 = 0) : wordsB (s ++ t) = wordsB s ++ wordsB t := by
  have hg : gap (s ++ t).size 4 = gap t.size 4 := by rw [append_size, gap, gap]; omega
  have e : (padK (s ++ t) 4).data.toList = s.data.toList ++ (padK t 4).data.toList := by
    rw [padK_list, padK_list, append_data, hg, List.append_assoc]
  rw [wordsB, e, wordsL_append _ _ (by rw [← size_list]; exact h), wordsB, wordsB, pad4_same s h]
theorem wordsB_lt (s : ByteArray) : ∀ x ∈ wordsB s, x < 4294967296 := wordsL_lt _
theorem pad4_le (s : ByteArray) : (padK s 4).size < s.size + 4 := by
  rw [padK_size]; have := gap_lt s.size 4 (by omega); omega
end Go.Proofs.YtiffkbmcikiioaaGreat

/-
  The document's answers of layer 2: a sum grown by a text, word by word.
-/
namespace Go.Proofs.YtiffkbmcikiioaaGreat
set_option maxRecDepth 100000
open Go.RowKit M

theorem refPad4 (s : ByteArray) (w : World) (hs : s.size ≤ 1099511627776) :
    Calls Tryz.prog 108 #[.string s, .int .i64 4] w fun e w' => e = .returned (.string (padK s 4)) ∧ w = w' :=
  refPad_any s 4 w hs (by omega) (by omega)
theorem extract_word (p : ByteArray) (k : Nat) : numL (p.extract (4 * k) (4 * k + 4)).data.toList = wordAt p.data.toList k := by
  rw [ByteArray.data_extract, Array.toList_extract, wordAt]
  simp [List.extract]

set_option maxHeartbeats 2000000 in
theorem refMore_any (q : Q) (s : ByteArray) (w : World) (hq : q.Ok) (hs : s.size ≤ 1099511627776) :
    Calls Tryz.prog 80 #[.agg #[.int .u64 q.a, .int .u64 q.b, .int .u64 q.c, .int .u64 q.d], .string s] w fun e w' =>
      e = .returned (.agg #[.int .u64 (sumQ q (wordsB s)).a, .int .u64 (sumQ q (wordsB s)).b, .int .u64 (sumQ q (wordsB s)).c, .int .u64 (sumQ q (wordsB s)).d]) ∧ Below w.heap.size w w' := by
  have hX0 : HoldsQ ((w.alloc (.cells #[.int .u64 q.a, .int .u64 q.b, .int .u64 q.c, .int .u64 q.d] 29)).alloc (.cells #[.int .u64 0, .int .u64 0, .int .u64 0, .int .u64 0] 29)) w.heap.size q :=
    (HoldsQ.new w q 29).below (B := w.heap.size + 1) ((Below.refl _ _).alloc (by simp) _) (by omega)
  have hR0 : HoldsQ ((w.alloc (.cells #[.int .u64 q.a, .int .u64 q.b, .int .u64 q.c, .int .u64 q.d] 29)).alloc (.cells #[.int .u64 0, .int .u64 0, .int .u64 0, .int .u64 0] 29)) (w.heap.size + 1) zeroQ := by
    have := HoldsQ.new (w.alloc (.cells #[.int .u64 q.a, .int .u64 q.b, .int .u64 q.c, .int .u64 q.d] 29)) zeroQ 29
    rw [World.size_alloc] at this
    exact this
  have hB0 : Below w.heap.size w ((w.alloc (.cells #[.int .u64 q.a, .int .u64 q.b, .int .u64 q.c, .int .u64 q.d] 29)).alloc (.cells #[.int .u64 0, .int .u64 0, .int .u64 0, .int .u64 0] 29)) := ((Below.refl _ w).alloc (Nat.le_refl _) _).alloc (by simp) _
  go_enter Tryz.func80, Tryz.ntmps80
  go_wp2_with fail
  generalize (w.alloc (.cells #[.int .u64 q.a, .int .u64 q.b, .int .u64 q.c, .int .u64 q.d] 29)).alloc (.cells #[.int .u64 0, .int .u64 0, .int .u64 0, .int .u64 0] 29) = w0 at hX0 hR0 hB0
  refine (refPad4 s _ hs).mono ?_
  rintro e w1 ⟨rfl, rfl⟩
  have hp4 := pad4_size s
  have hpl := pad4_le s
  have hW : ∀ k, k < (padK s 4).size / 4 → (wordsB s)[k]? = some (numL ((padK s 4).extract (4 * k) (4 * k + 4)).data.toList) := fun k hk => by
    rw [extract_word]; exact wordsL_at (by rw [← size_list]; exact hk)
  have hNN : (wordsB s).length = (padK s 4).size / 4 := by rw [wordsB, wordsL_length, ← size_list]
  generalize padK s 4 = p at hp4 hpl hW hNN
  obtain ⟨N, hN⟩ : ∃ N, p.size = 4 * N := ⟨p.size / 4, by omega⟩
  rw [hN, Nat.mul_div_cancel_left N (by omega)] at hW hNN
  have HW := Lib.hid hW
  have HN := Lib.hid hN
  have HNN := Lib.hid hNN
  have hNs : 4 * N ≤ 1099511627780 := by omega
  clear hW hNN hp4 hN hpl
  generalize hbx : w.heap.size = bx at hX0 hR0 hB0
  have HBX := Lib.hid hbx
  clear hbx
  go_wp2_with fail
  go_loopw [5] (fun i wx => ∃ k j : Nat, k ≤ N ∧ Hid (j = 4 * k) ∧ i = .int .i64 j ∧ HoldsQ wx bx (sumQ q ((wordsB s).take k)) ∧ HoldsQ wx (bx + 1) zeroQ ∧ Below bx w wx) (fun i _ => 4 * N - (intOf i).toNat)
  case atStart => exact ⟨0, 0, Nat.zero_le _, Lib.hid rfl, rfl, hX0, hR0, hB0⟩
  case round =>
    obtain ⟨k, j, hk, HJ, rfl, hX, hR, hB⟩ := hrel
    clear hX0 hR0 hB0
    by_cases hlt : k < N
    · have hx := HW.out k hlt
      rw [← HJ.out] at hx
      have hxl : numL (p.extract j (j + 4)).data.toList < 4294967296 := by rw [HJ.out, extract_word]; exact wordAt_lt _ k
      have HNum := Lib.hid (fun w => refNumber_any (p.extract j (j + 4)) w (by rw [ByteArray.size_extract]; omega))
      generalize numL (p.extract j (j + 4)).data.toList = x at hx hxl HNum
      have HS := Lib.hid (show sumQ q ((wordsB s).take (k + 1)) = stepQ (sumQ q ((wordsB s).take k)) x by rw [take_words hx, sumQ_snoc])
      clear hx
      have hok := sumQ_ok ((wordsB s).take k) q hq
      generalize sumQ q ((wordsB s).take k) = r at hX HS hok
      have HX := Lib.hid hX
      have HR := Lib.hid hR
      obtain ⟨k0, k1, k2, k3, f0, f1, f2, f3⟩ := hX
      have hjp : j + 4 ≤ p.size := by rw [HN.out, HJ.out]; omega
      have hps : p.size ≤ 1099511627780 := by rw [HN.out]; omega
      clear hR
      go_wp2_with fail
      refine wp_region_still_tail 10 (by kernel_rfl) (by kernel_rfl) ?_
      simp only [List.take_succ_cons, List.take_zero, List.drop_succ_cons, List.drop_zero]
      have i1 : IntKind.i64.wrap ((j : Int) + 4) = (j : Int) + 4 := by rw [IntKind.wrap_i64]; omega
      have i2 : (0 : Int) ≤ (j : Int) + 4 := by omega
      have i3 : (j : Int) + 4 ≤ (p.size : Int) := by omega
      have i4 : (j : Int) ≤ (j : Int) + 4 := by omega
      have i5 : ((j : Int) + 4).toNat = j + 4 := by omega
      still_step
      still_step
      still_step
      still_step
      still_step
      still_step
      still_step
      still_call ((HNum.out _).mono fun _ _ ⟨he, hw⟩ => ⟨he, hw.symm⟩)
      still_step
      still_step
      refine wpStill_nil ?_
      clear i1 i2 i3 i4 i5
      go_wp2
      rw [wrap_add r.a x, wrap_add r.b _, wrap_add r.c _, wrap_add r.d _]
      refine ⟨⟨k + 1, j + 4, by omega, Lib.hid (by rw [HJ.out]; omega), by go_num, ?_, ?_, ?_⟩, ?_⟩
      · rw [HS.out]
        exact HoldsQ.put (W := wr.drew) (HX.out.below (Below.refl (bx + 1) wr).drew (by omega)) (stepQ r x)
      · exact HoldsQ.putOther (W := wr.drew) (HR.out.below (Below.refl (bx + 2) wr).drew (by omega)) (by omega) (stepQ r x)
      · exact hB.drew.trans (putQ_below (W := wr.drew) (Nat.le_refl _) (stepQ r x))
      · simp [intOf]; rw [HJ.out]; omega
    · have hjp : j = p.size := by rw [HN.out, HJ.out]; omega
      have hge : (p.size : Int) ≤ (j : Int) := by omega
      have hX' : HoldsQ wr bx (sumQ q (wordsB s)) := by
        have : (wordsB s).take k = wordsB s := List.take_of_length_le (by rw [HNN.out]; omega)
        rw [this] at hX; exact hX
      clear hX hjp
      generalize hr : sumQ q (wordsB s) = r at hX'
      have HRR := Lib.hid hr
      clear hr
      have HR := Lib.hid hR
      obtain ⟨k0, k1, k2, k3, f0, f1, f2, f3⟩ := hX'
      obtain ⟨r0, r1, r2, r3, g0, g1, g2, g3⟩ := hR
      go_wp2
      have hp := HR.out.put r
      refine bodyPost_ret (v := .agg #[.int .u64 r.a, .int .u64 r.b, .int .u64 r.c, .int .u64 r.d]) ?_ rfl ⟨by rw [HRR.out], by rw [HBX.out]; exact hB.trans (putQ_below (b := bx + 1) (by omega) r)⟩
      have c0 := hp.c0
      have c1 := hp.c1
      have c2 := hp.c2
      have c3 := hp.c3
      unfold putQ at c0 c1 c2 c3
      simp [results, Tryz.results80, go_sem, c0, c1, c2, c3]
theorem refSum_any (s : ByteArray) (w : World) (hs : s.size ≤ 1099511627776) :
    Calls Tryz.prog 49 #[.string s] w fun e w' =>
      e = .returned (.agg #[.int .u64 (sumQ zeroQ (wordsB s)).a, .int .u64 (sumQ zeroQ (wordsB s)).b, .int .u64 (sumQ zeroQ (wordsB s)).c, .int .u64 (sumQ zeroQ (wordsB s)).d]) ∧ Below w.heap.size w w' := by
  go_enter Tryz.func49, Tryz.ntmps49
  go_wp2_with fail
  refine (refMore_any zeroQ s _ zeroQ_ok hs).mono ?_
  rintro e w1 ⟨rfl, b1⟩
  generalize hr : sumQ zeroQ (wordsB s) = r
  have HX := Lib.hid hr
  clear hr
  have hR := (HoldsQ.new w zeroQ 29).below b1 (by simp)
  have hB : Below w.heap.size w w1 := ((Below.refl _ w).alloc (Nat.le_refl _) _).trans (b1.mono (by simp))
  have HR := Lib.hid hR
  obtain ⟨k0, k1, k2, k3, f0, f1, f2, f3⟩ := hR
  clear b1
  go_wp2
  have hp := HR.out.put r
  refine bodyPost_ret (v := .agg #[.int .u64 r.a, .int .u64 r.b, .int .u64 r.c, .int .u64 r.d]) ?_ rfl ⟨by rw [HX.out], hB.trans (putQ_below (Nat.le_refl _) r)⟩
  have c0 := hp.c0
  have c1 := hp.c1
  have c2 := hp.c2
  have c3 := hp.c3
  unfold putQ at c0 c1 c2 c3
  simp [results, Tryz.results49, go_sem, c0, c1, c2, c3]
end Go.Proofs.YtiffkbmcikiioaaGreat
