/-
  space.Take.
-/
import Derived.Test.YtoiiaacjpobaeaaSd
namespace Go.Proofs.Ytoiiaacjpobaeaa
set_option maxRecDepth 100000
open Go.RowKit

theorem MapAt.row {B : Nat} {x : Nat → Prop} {w : World} {b : Nat} {z : Int} {v : Value} {l : List (Int × Int)} (h : MapAt B x w b z v l) (h0 : 0 < l.length) : ∃ g n c, v = .slice (some ⟨g, 0, none⟩) n c ∧ l.length = n ∧ Row w g c l := by
  rcases h.mv.r with ⟨_, rfl⟩ | ⟨g, n, c, rfl, hn, _, _, hR⟩
  · simp at h0
  · exact ⟨g, n, c, rfl, hn, hR⟩
theorem MapAt.slice {B : Nat} {x : Nat → Prop} {w : World} {b : Nat} {z : Int} {v : Value} {l : List (Int × Int)} (h : MapAt B x w b z v l) : ∃ a n c, v = .slice a n c ∧ l.length = n := by
  rcases h.mv.r with ⟨rfl, rfl⟩ | ⟨g, n, c, rfl, hn, _⟩
  · exact ⟨_, _, _, rfl, rfl⟩
  · exact ⟨_, _, _, rfl, hn⟩
theorem WF.len {z : Int} {l : List (Int × Int)} (h : WF z l) (hz : 0 ≤ z ∧ z ≤ 65536) : l.length ≤ 65536 := by have := h.sum hz.1; omega
theorem IsRun.pair {w : World} {g o : Nat} {x y : Int} (h : IsRun w g o (x, y)) : w.cell? ⟨g, o, none⟩ = some (.int .i64 x) ∧ w.cell? ⟨g, o + 1, none⟩ = some (.int .i64 y) := ⟨h.c0, h.c1⟩
/-- What a call that turns a map leaves. -/
def Did (B : Nat) (x : Nat → Prop) (w : World) (b : Nat) (z : Int) (l : List (Int × Int)) (r : Int) (e : Ending) (w' : World) : Prop := e = .returned (.int .i64 r) ∧ MapIn B x w' b z l ∧ KeptX B x w w'
theorem IsRun.kept {w w' : World} {g o : Nat} {c : Int × Int} (h : IsRun w g o c) (hb : Below w.heap.size w w') : IsRun w' g o c := h.below (World.block_lt_of_cell? w _ h.c0) hb
theorem src_lit (w : World) (x y : Int) : SrcR (w.alloc (.cells #[.int .i64 x, .int .i64 y] 39)) (.slice (some ⟨w.heap.size, 0, none⟩) 1 1) [(x, y)] :=
  RunsV.src (.inr ⟨_, 1, 1, rfl, rfl, Nat.le_refl _, by unfold maxLen; omega, row_lit w x y⟩)
theorem hasB_true {z a n : Int} (h : hasB z a n = true) : 1 ≤ n ∧ 0 ≤ a ∧ a + n ≤ z := of_decide_eq_true h
theorem take_no (B : Nat) (x : Nat → Prop) (w : World) (b : Nat) (z a n : Int) (l : List (Int × Int)) (h : MapIn B x w b z l) (hz : 0 ≤ z ∧ z ≤ 65536) (hn : I64 n) (hh : hasB z a n = false) :
    Calls Try.prog 11 #[.pointer (some ⟨b, 0, none⟩), .int .i64 a, .int .i64 n] w (Did B x w b z l 1) := by
  obtain ⟨v, hv⟩ := h
  have c0 := hv.mv.c0
  have HC := Lib.hid (has_ok z a n b w c0 hz hn)
  rw [hh] at HC
  have H : Hid (MapIn B x w b z l) := Lib.hid ⟨v, hv⟩
  clear hv hh hn hz
  go_enter Try.func11, Try.ntmps11
  go_wp2_with fail
  refine HC.out.mono ?_
  rintro e w1 ⟨rfl, rfl⟩
  go_wp2
  go_ret
  exact ⟨rfl, H.out, KeptX.refl _ _ _⟩
theorem take_nil (a n : Int) (w : World) : Calls Try.prog 11 #[.pointer none, .int .i64 a, .int .i64 n] w fun e w' => e = .returned (.int .i64 1) ∧ w = w' := by
  go_enter Try.func11, Try.ntmps11
  go_wp2_with fail
  refine (has_nil a n w).mono ?_
  rintro e w1 ⟨rfl, rfl⟩
  go_wp2
  go_ret
  exact ⟨rfl, rfl⟩
set_option maxHeartbeats 1000000 in
theorem take_used (B : Nat) (x : Nat → Prop) (w : World) (b : Nat) (z a n : Int) (l l1 q : List (Int × Int)) (cx cy : Int) (h : MapIn B x w b z l) (hw : WF z l) (hz : 0 ≤ z ∧ z ≤ 65536) (hn : I64 n) (hh : hasB z a n = true) (hc : Cut l l1 ((cx, cy) :: q) a) (hlt : cx < a + n) :
    Calls Try.prog 11 #[.pointer (some ⟨b, 0, none⟩), .int .i64 a, .int .i64 n] w (Did B x w b z l 13) := by
  have HN := Lib.hid (next_ok h hw hz hc _ rfl)
  obtain ⟨n1, a0, anz⟩ := hasB_true hh
  obtain ⟨v, hv⟩ := h
  have HC := Lib.hid (has_ok z a n b w hv.mv.c0 hz hn)
  rw [hh] at HC
  have H := Lib.hid hv
  have hlen : l1.length < l.length := by rw [hc.eq]; simp
  have hll := hw.len hz
  obtain ⟨g, N, cc, rfl, hN, hR⟩ := hv.row (by omega)
  have hr := hR.is l1.length hlen
  have hel : l[l1.length] = (cx, cy) := by have := hc.eq; subst this; simp
  rw [hel] at hr
  obtain ⟨s0, s1, s2⟩ : 0 ≤ cx ∧ 1 ≤ cy ∧ cx + cy ≤ z := hw.ok (cx, cy) (by rw [hc.eq]; simp)
  generalize hk : l1.length = k at *
  have hkN : k < N := by omega
  have d1 : decide (cx < a + n) = true := decide_eq_true hlt
  have HR := Lib.hid hr
  have HZ := Lib.hid hz
  clear hv hh hn hz hw hc hlen hll hN hR hr hel hk hlt
  go_enter Try.func11, Try.ntmps11
  go_wp2_with fail
  refine HC.out.mono ?_
  rintro e w1 ⟨rfl, rfl⟩
  go_wp2_with fail
  refine HN.out.mono ?_
  rintro e w1 ⟨rfl, b1⟩
  have H1 := Lib.hid (H.out.below b1)
  have c1 := H1.out.mv.c1
  obtain ⟨r0, _⟩ := (HR.out.kept b1).pair
  have HB := Lib.hid b1
  have z1 := HZ.out.2
  clear b1
  go_wp2
  go_ret
  exact ⟨rfl, ⟨_, H1.out⟩, KeptX.of HB.out H.out.lt H.out.lx⟩
set_option maxHeartbeats 2000000 in
theorem take_xx (B : Nat) (x : Nat → Prop) (w : World) (b : Nat) (z a n : Int) (l : List (Int × Int)) (h : MapIn B x w b z l) (hw : WF z l) (hz : 0 ≤ z ∧ z ≤ 65536) (hn : I64 n) (hh : hasB z a n = true) (hc : Cut l ([]) ([]) a) :
    Calls Try.prog 11 #[.pointer (some ⟨b, 0, none⟩), .int .i64 a, .int .i64 n] w (Did B x w b z ([] ++ ([(a, a + n - a)] ++ [])) 0) := by
  have HN := Lib.hid (next_ok h hw hz hc _ rfl)
  obtain ⟨n1, a0, anz⟩ := hasB_true hh
  have H := Lib.hid h
  obtain ⟨v, hv⟩ := h
  have HC := Lib.hid (has_ok z a n b w hv.mv.c0 hz hn)
  rw [hh] at HC
  have hll := hw.len hz
  have z1 := hz.2
  have hlq : l = [] ++ ([] ++ []) := by rw [hc.eq]; simp
  have hpl : ∀ W, MapIn B x W b z l → ∀ (f t : Nat), ([] : List (Int × Int)).length = f → f + ([] : List (Int × Int)).length = t → ∀ vx, SrcR W vx [(a, a + n - a)] → Calls Try.prog 26 #[.pointer (some ⟨b, 0, none⟩), .int .i64 (f : Int), .int .i64 (t : Int), vx] W fun e w' => e = .returned (.tuple #[]) ∧ MapIn B x w' b z ([] ++ ([(a, a + n - a)] ++ [])) ∧ KeptX B x W w' :=
    fun W hW f t hf ht vx hs => put_ok (by rw [← hlq]; exact hW) f t hf ht vx hs (fun _ => by simp) (by rw [← hlq]; omega) (by simp)
  have HPL := Lib.hid hpl
  clear hpl
  obtain ⟨ga, N, cc, rfl, hN⟩ := hv.slice
  have HV := Lib.hid hv
  obtain ⟨k, hk⟩ : ∃ k : Nat, ([] : List (Int × Int)).length = k := ⟨_, rfl⟩
  have hk' : 0 = k := by rw [← hk]; simp
  rw [hk] at HN
  have hkN : ¬ k < N := by rw [← hN, ← hk, hc.eq]; simp
  have dN : decide ((k : Int) < (N : Int)) = false := by simp; omega
  have dk : decide ((0 : Int) < (k : Int)) = false := by simp; omega
  have hk0 : ¬ 0 < k := by omega
  have dk' : decide (0 < k) = false := decide_eq_false hk0
  have hkl : k ≤ 65536 := by rw [← hk]; have := hll; rw [hc.eq, List.length_append] at this; omega
  have HF : Hid (([] : List (Int × Int)).length = k) := Lib.hid (by first | exact hk | exact hj)
  have HT : Hid (k + ([] : List (Int × Int)).length = k) := Lib.hid (by simp; try omega)
  have hcc : a + n ≤ 65536 := by omega
  clear hv hh hn hz hw hc hll hlq hk hk' hN
  go_enter Try.func11, Try.ntmps11
  go_wp2_with fail
  refine HC.out.mono ?_
  rintro e w1 ⟨rfl, rfl⟩
  go_wp2_with fail
  refine HN.out.mono ?_
  rintro e w1 ⟨rfl, b1⟩
  have c1 := (HV.out.below b1).mv.c1
  have HB := Lib.hid b1
  clear b1
  go_wp2_with fail
  refine (HPL.out _ (H.out.below (next HB.out (boxed _ _))) k (k) HF.out HT.out _ (src_lit _ _ _)).mono ?_
  rintro e w7 ⟨rfl, hM, hK⟩
  go_wp2
  go_ret
  exact ⟨rfl, hM, (H.out.keep (next HB.out (boxed _ _))).trans hK⟩
set_option maxHeartbeats 2000000 in
theorem take_xn (B : Nat) (x : Nat → Prop) (w : World) (b : Nat) (z a n : Int) (l : List (Int × Int)) (q : List (Int × Int)) (cx cy : Int) (h : MapIn B x w b z l) (hw : WF z l) (hz : 0 ≤ z ∧ z ≤ 65536) (hn : I64 n) (hh : hasB z a n = true) (hc : Cut l ([]) ((cx, cy) :: q) a) (hRr : a + n < cx) :
    Calls Try.prog 11 #[.pointer (some ⟨b, 0, none⟩), .int .i64 a, .int .i64 n] w (Did B x w b z ([] ++ ([(a, a + n - a)] ++ ((cx, cy) :: q))) 0) := by
  have HN := Lib.hid (next_ok h hw hz hc _ rfl)
  obtain ⟨n1, a0, anz⟩ := hasB_true hh
  have H := Lib.hid h
  obtain ⟨v, hv⟩ := h
  have HC := Lib.hid (has_ok z a n b w hv.mv.c0 hz hn)
  rw [hh] at HC
  have hll := hw.len hz
  have z1 := hz.2
  have hlq : l = [] ++ ([] ++ ((cx, cy) :: q)) := by rw [hc.eq]; simp
  have hpl : ∀ W, MapIn B x W b z l → ∀ (f t : Nat), ([] : List (Int × Int)).length = f → f + ([] : List (Int × Int)).length = t → ∀ vx, SrcR W vx [(a, a + n - a)] → Calls Try.prog 26 #[.pointer (some ⟨b, 0, none⟩), .int .i64 (f : Int), .int .i64 (t : Int), vx] W fun e w' => e = .returned (.tuple #[]) ∧ MapIn B x w' b z ([] ++ ([(a, a + n - a)] ++ ((cx, cy) :: q))) ∧ KeptX B x W w' :=
    fun W hW f t hf ht vx hs => put_ok (by rw [← hlq]; exact hW) f t hf ht vx hs (fun _ => by simp) (by rw [← hlq]; omega) (by simp)
  have HPL := Lib.hid hpl
  clear hpl
  obtain ⟨g, N, cc, rfl, hN, hR⟩ := hv.row (by rw [hc.eq]; simp; try omega)
  have HV := Lib.hid hv
  have hlc : 0 < l.length := by rw [hc.eq]; simp; try omega
  have hrc := hR.is (0) hlc
  have hec : l[0] = (cx, cy) := by have := hc.eq; subst this; simp
  rw [hec] at hrc
  obtain ⟨s0, s1, s2⟩ : 0 ≤ cx ∧ 1 ≤ cy ∧ cx + cy ≤ z := hw.ok (cx, cy) (by rw [hc.eq]; simp)
  have HRC := Lib.hid hrc
  clear hrc hec
  obtain ⟨k, hk⟩ : ∃ k : Nat, ([] : List (Int × Int)).length = k := ⟨_, rfl⟩
  have hk' : 0 = k := by rw [← hk]; simp
  skip
  rw [hk'] at HRC
  rw [hk] at HN
  have hkN : k < N := by rw [← hN, ← hk, hc.eq]; simp
  have dN : decide ((k : Int) < (N : Int)) = true := by simp; omega
  have dk : decide ((0 : Int) < (k : Int)) = false := by simp; omega
  have hk0 : ¬ 0 < k := by omega
  have dk' : decide (0 < k) = false := decide_eq_false hk0
  have hkl : k ≤ 65536 := by rw [← hk]; have := hll; rw [hc.eq, List.length_append] at this; omega
  have HF : Hid (([] : List (Int × Int)).length = k) := Lib.hid (by first | exact hk | exact hj)
  have HT : Hid (k + ([] : List (Int × Int)).length = k) := Lib.hid (by simp; try omega)
  have eR : (cx == a + n) = false := by simp; omega
  have eR2 : decide (cx < a + n) = false := decide_eq_false (by omega)
  have hcc : a + n ≤ 65536 := by omega
  clear hv hh hn hz hw hc hll hlq hk hk' hN hR hRr hlc
  go_enter Try.func11, Try.ntmps11
  go_wp2_with fail
  refine HC.out.mono ?_
  rintro e w1 ⟨rfl, rfl⟩
  go_wp2_with fail
  refine HN.out.mono ?_
  rintro e w1 ⟨rfl, b1⟩
  have c1 := (HV.out.below b1).mv.c1
  obtain ⟨m0, m1⟩ := (HRC.out.kept b1).pair
  have HB := Lib.hid b1
  clear b1
  go_wp2_with fail
  refine (HPL.out _ (H.out.below (next HB.out (boxed _ _))) k (k) HF.out HT.out _ (src_lit _ _ _)).mono ?_
  rintro e w7 ⟨rfl, hM, hK⟩
  go_wp2
  go_ret
  exact ⟨rfl, hM, (H.out.keep (next HB.out (boxed _ _))).trans hK⟩
set_option maxHeartbeats 2000000 in
theorem take_xy (B : Nat) (x : Nat → Prop) (w : World) (b : Nat) (z a n : Int) (l : List (Int × Int)) (q : List (Int × Int)) (cx cy : Int) (h : MapIn B x w b z l) (hw : WF z l) (hz : 0 ≤ z ∧ z ≤ 65536) (hn : I64 n) (hh : hasB z a n = true) (hc : Cut l ([]) ((cx, cy) :: q) a) (hRr : cx = a + n) :
    Calls Try.prog 11 #[.pointer (some ⟨b, 0, none⟩), .int .i64 a, .int .i64 n] w (Did B x w b z ([] ++ ([(a, cx + cy - a)] ++ q)) 0) := by
  have HN := Lib.hid (next_ok h hw hz hc _ rfl)
  obtain ⟨n1, a0, anz⟩ := hasB_true hh
  have H := Lib.hid h
  obtain ⟨v, hv⟩ := h
  have HC := Lib.hid (has_ok z a n b w hv.mv.c0 hz hn)
  rw [hh] at HC
  have hll := hw.len hz
  have z1 := hz.2
  have hlq : l = [] ++ ([(cx, cy)] ++ q) := by rw [hc.eq]; simp
  have hpl : ∀ W, MapIn B x W b z l → ∀ (f t : Nat), ([] : List (Int × Int)).length = f → f + ([(cx, cy)] : List (Int × Int)).length = t → ∀ vx, SrcR W vx [(a, cx + cy - a)] → Calls Try.prog 26 #[.pointer (some ⟨b, 0, none⟩), .int .i64 (f : Int), .int .i64 (t : Int), vx] W fun e w' => e = .returned (.tuple #[]) ∧ MapIn B x w' b z ([] ++ ([(a, cx + cy - a)] ++ q)) ∧ KeptX B x W w' :=
    fun W hW f t hf ht vx hs => put_ok (by rw [← hlq]; exact hW) f t hf ht vx hs (fun _ => by simp) (by rw [← hlq]; omega) (by simp)
  have HPL := Lib.hid hpl
  clear hpl
  obtain ⟨g, N, cc, rfl, hN, hR⟩ := hv.row (by rw [hc.eq]; simp; try omega)
  have HV := Lib.hid hv
  have hlc : 0 < l.length := by rw [hc.eq]; simp; try omega
  have hrc := hR.is (0) hlc
  have hec : l[0] = (cx, cy) := by have := hc.eq; subst this; simp
  rw [hec] at hrc
  obtain ⟨s0, s1, s2⟩ : 0 ≤ cx ∧ 1 ≤ cy ∧ cx + cy ≤ z := hw.ok (cx, cy) (by rw [hc.eq]; simp)
  have HRC := Lib.hid hrc
  clear hrc hec
  obtain ⟨k, hk⟩ : ∃ k : Nat, ([] : List (Int × Int)).length = k := ⟨_, rfl⟩
  have hk' : 0 = k := by rw [← hk]; simp
  skip
  rw [hk'] at HRC
  rw [hk] at HN
  have hkN : k < N := by rw [← hN, ← hk, hc.eq]; simp
  have dN : decide ((k : Int) < (N : Int)) = true := by simp; omega
  have dk : decide ((0 : Int) < (k : Int)) = false := by simp; omega
  have hk0 : ¬ 0 < k := by omega
  have dk' : decide (0 < k) = false := decide_eq_false hk0
  have hkl : k ≤ 65536 := by rw [← hk]; have := hll; rw [hc.eq, List.length_append] at this; omega
  have HF : Hid (([] : List (Int × Int)).length = k) := Lib.hid (by first | exact hk | exact hj)
  have HT : Hid (k + ([(cx, cy)] : List (Int × Int)).length = k + 1) := Lib.hid (by simp; try omega)
  have eR : (cx == a + n) = true := by simp; omega
  have eR2 : decide (cx < a + n) = false := decide_eq_false (by omega)
  have HRr := Lib.hid hRr
  have hcc : cx + cy ≤ 65536 := by omega
  clear hv hh hn hz hw hc hll hlq hk hk' hN hR hRr hlc
  go_enter Try.func11, Try.ntmps11
  go_wp2_with fail
  refine HC.out.mono ?_
  rintro e w1 ⟨rfl, rfl⟩
  go_wp2_with fail
  refine HN.out.mono ?_
  rintro e w1 ⟨rfl, b1⟩
  have c1 := (HV.out.below b1).mv.c1
  obtain ⟨m0, m1⟩ := (HRC.out.kept b1).pair
  have HB := Lib.hid b1
  clear b1
  go_wp2_with fail
  refine (end_ok cx cy _ (by omega) (by omega) (by omega)).mono ?_
  rintro e w2 ⟨rfl, b2⟩
  have b2 := next HB.out b2
  have c2 := (HV.out.below b2).mv.c1
  obtain ⟨m2, m3⟩ := (HRC.out.kept b2).pair
  have HB2 := Lib.hid b2
  clear b2
  go_wp2_with fail
  refine (HPL.out _ (H.out.below (next HB2.out (boxed _ _))) k (k + 1) HF.out HT.out _ (src_lit _ _ _)).mono ?_
  rintro e w7 ⟨rfl, hM, hK⟩
  go_wp2
  go_ret
  exact ⟨rfl, hM, (H.out.keep (next HB2.out (boxed _ _))).trans hK⟩
set_option maxHeartbeats 2000000 in
theorem take_nx (B : Nat) (x : Nat → Prop) (w : World) (b : Nat) (z a n : Int) (l : List (Int × Int)) (p : List (Int × Int)) (bx by' : Int) (h : MapIn B x w b z l) (hw : WF z l) (hz : 0 ≤ z ∧ z ≤ 65536) (hn : I64 n) (hh : hasB z a n = true) (hc : Cut l (p ++ [(bx, by')]) ([]) a) (hL : bx + by' ≠ a) :
    Calls Try.prog 11 #[.pointer (some ⟨b, 0, none⟩), .int .i64 a, .int .i64 n] w (Did B x w b z ((p ++ [(bx, by')]) ++ ([(a, a + n - a)] ++ [])) 0) := by
  have HN := Lib.hid (next_ok h hw hz hc _ rfl)
  obtain ⟨n1, a0, anz⟩ := hasB_true hh
  have H := Lib.hid h
  obtain ⟨v, hv⟩ := h
  have HC := Lib.hid (has_ok z a n b w hv.mv.c0 hz hn)
  rw [hh] at HC
  have hll := hw.len hz
  have z1 := hz.2
  have hlq : l = (p ++ [(bx, by')]) ++ ([] ++ []) := by rw [hc.eq]; simp
  have hpl : ∀ W, MapIn B x W b z l → ∀ (f t : Nat), ((p ++ [(bx, by')]) : List (Int × Int)).length = f → f + ([] : List (Int × Int)).length = t → ∀ vx, SrcR W vx [(a, a + n - a)] → Calls Try.prog 26 #[.pointer (some ⟨b, 0, none⟩), .int .i64 (f : Int), .int .i64 (t : Int), vx] W fun e w' => e = .returned (.tuple #[]) ∧ MapIn B x w' b z ((p ++ [(bx, by')]) ++ ([(a, a + n - a)] ++ [])) ∧ KeptX B x W w' :=
    fun W hW f t hf ht vx hs => put_ok (by rw [← hlq]; exact hW) f t hf ht vx hs (fun _ => by simp) (by rw [← hlq]; omega) (by simp)
  have HPL := Lib.hid hpl
  clear hpl
  obtain ⟨g, N, cc, rfl, hN, hR⟩ := hv.row (by rw [hc.eq]; simp; try omega)
  have HV := Lib.hid hv
  have hlb : p.length < l.length := by rw [hc.eq]; simp; try omega
  have hrb := hR.is p.length hlb
  have heb : l[p.length] = (bx, by') := by have := hc.eq; subst this; simp
  rw [heb] at hrb
  obtain ⟨u0, u1, u2⟩ : 0 ≤ bx ∧ 1 ≤ by' ∧ bx + by' ≤ z := hw.ok (bx, by') (by rw [hc.eq]; simp)
  have HRB := Lib.hid hrb
  clear hrb heb hlb
  obtain ⟨k, hk⟩ : ∃ k : Nat, (p ++ [(bx, by')] : List (Int × Int)).length = k := ⟨_, rfl⟩
  have hk' : p.length + 1 = k := by rw [← hk]; simp
  obtain ⟨j, hj⟩ : ∃ j : Nat, p.length = j := ⟨_, rfl⟩
  rw [hj] at HRB hk'
  rw [hk] at HN
  have hkN : ¬ k < N := by rw [← hN, ← hk, hc.eq]; simp
  have dN : decide ((k : Int) < (N : Int)) = false := by simp; omega
  have dk : decide ((0 : Int) < (k : Int)) = true := by simp; omega
  have hk0 : 0 < k := by omega
  have dj : (k : Int) - 1 = (j : Int) := by omega
  have djN : j < N := by rw [← hN, ← hj, hc.eq]; simp; try omega
  have hkl : k ≤ 65536 := by rw [← hk]; have := hll; rw [hc.eq, List.length_append] at this; omega
  have HF : Hid (((p ++ [(bx, by')]) : List (Int × Int)).length = k) := Lib.hid (by first | exact hk | exact hj)
  have HT : Hid (k + ([] : List (Int × Int)).length = k) := Lib.hid (by simp; try omega)
  have eL : (bx + by' == a) = false := by simpa using hL
  have hcc : a + n ≤ 65536 := by omega
  clear hv hh hn hz hw hc hll hlq hk hk' hN hR hj hL
  go_enter Try.func11, Try.ntmps11
  go_wp2_with fail
  refine HC.out.mono ?_
  rintro e w1 ⟨rfl, rfl⟩
  go_wp2_with fail
  refine HN.out.mono ?_
  rintro e w1 ⟨rfl, b1⟩
  have c1 := (HV.out.below b1).mv.c1
  obtain ⟨l0, l1'⟩ := (HRB.out.kept b1).pair
  have HB := Lib.hid b1
  clear b1
  go_wp2_with fail
  refine (end_ok bx by' _ (by omega) (by omega) (by omega)).mono ?_
  rintro e w2 ⟨rfl, b2⟩
  have b2 := next HB.out b2
  have c2 := (HV.out.below b2).mv.c1
  obtain ⟨l2, l3⟩ := (HRB.out.kept b2).pair
  have HB2 := Lib.hid b2
  clear b2
  go_wp2_with fail
  refine (HPL.out _ (H.out.below (next HB2.out (boxed _ _))) k (k) HF.out HT.out _ (src_lit _ _ _)).mono ?_
  rintro e w7 ⟨rfl, hM, hK⟩
  go_wp2
  go_ret
  exact ⟨rfl, hM, (H.out.keep (next HB2.out (boxed _ _))).trans hK⟩
set_option maxHeartbeats 2000000 in
theorem take_nn (B : Nat) (x : Nat → Prop) (w : World) (b : Nat) (z a n : Int) (l : List (Int × Int)) (p : List (Int × Int)) (bx by' : Int) (q : List (Int × Int)) (cx cy : Int) (h : MapIn B x w b z l) (hw : WF z l) (hz : 0 ≤ z ∧ z ≤ 65536) (hn : I64 n) (hh : hasB z a n = true) (hc : Cut l (p ++ [(bx, by')]) ((cx, cy) :: q) a) (hL : bx + by' ≠ a) (hRr : a + n < cx) :
    Calls Try.prog 11 #[.pointer (some ⟨b, 0, none⟩), .int .i64 a, .int .i64 n] w (Did B x w b z ((p ++ [(bx, by')]) ++ ([(a, a + n - a)] ++ ((cx, cy) :: q))) 0) := by
  have HN := Lib.hid (next_ok h hw hz hc _ rfl)
  obtain ⟨n1, a0, anz⟩ := hasB_true hh
  have H := Lib.hid h
  obtain ⟨v, hv⟩ := h
  have HC := Lib.hid (has_ok z a n b w hv.mv.c0 hz hn)
  rw [hh] at HC
  have hll := hw.len hz
  have z1 := hz.2
  have hlq : l = (p ++ [(bx, by')]) ++ ([] ++ ((cx, cy) :: q)) := by rw [hc.eq]; simp
  have hpl : ∀ W, MapIn B x W b z l → ∀ (f t : Nat), ((p ++ [(bx, by')]) : List (Int × Int)).length = f → f + ([] : List (Int × Int)).length = t → ∀ vx, SrcR W vx [(a, a + n - a)] → Calls Try.prog 26 #[.pointer (some ⟨b, 0, none⟩), .int .i64 (f : Int), .int .i64 (t : Int), vx] W fun e w' => e = .returned (.tuple #[]) ∧ MapIn B x w' b z ((p ++ [(bx, by')]) ++ ([(a, a + n - a)] ++ ((cx, cy) :: q))) ∧ KeptX B x W w' :=
    fun W hW f t hf ht vx hs => put_ok (by rw [← hlq]; exact hW) f t hf ht vx hs (fun _ => by simp) (by rw [← hlq]; omega) (by simp)
  have HPL := Lib.hid hpl
  clear hpl
  obtain ⟨g, N, cc, rfl, hN, hR⟩ := hv.row (by rw [hc.eq]; simp; try omega)
  have HV := Lib.hid hv
  have hlb : p.length < l.length := by rw [hc.eq]; simp; try omega
  have hrb := hR.is p.length hlb
  have heb : l[p.length] = (bx, by') := by have := hc.eq; subst this; simp
  rw [heb] at hrb
  obtain ⟨u0, u1, u2⟩ : 0 ≤ bx ∧ 1 ≤ by' ∧ bx + by' ≤ z := hw.ok (bx, by') (by rw [hc.eq]; simp)
  have HRB := Lib.hid hrb
  clear hrb heb hlb
  have hlc : p.length + 1 < l.length := by rw [hc.eq]; simp; try omega
  have hrc := hR.is (p.length + 1) hlc
  have hec : l[p.length + 1] = (cx, cy) := by have := hc.eq; subst this; simp
  rw [hec] at hrc
  obtain ⟨s0, s1, s2⟩ : 0 ≤ cx ∧ 1 ≤ cy ∧ cx + cy ≤ z := hw.ok (cx, cy) (by rw [hc.eq]; simp)
  have HRC := Lib.hid hrc
  clear hrc hec
  obtain ⟨k, hk⟩ : ∃ k : Nat, (p ++ [(bx, by')] : List (Int × Int)).length = k := ⟨_, rfl⟩
  have hk' : p.length + 1 = k := by rw [← hk]; simp
  obtain ⟨j, hj⟩ : ∃ j : Nat, p.length = j := ⟨_, rfl⟩
  rw [hj] at HRB hk'
  rw [hj] at HRC
  rw [hk'] at HRC
  rw [hk] at HN
  have hkN : k < N := by rw [← hN, ← hk, hc.eq]; simp
  have dN : decide ((k : Int) < (N : Int)) = true := by simp; omega
  have dk : decide ((0 : Int) < (k : Int)) = true := by simp; omega
  have hk0 : 0 < k := by omega
  have dj : (k : Int) - 1 = (j : Int) := by omega
  have djN : j < N := by rw [← hN, ← hj, hc.eq]; simp; try omega
  have hkl : k ≤ 65536 := by rw [← hk]; have := hll; rw [hc.eq, List.length_append] at this; omega
  have HF : Hid (((p ++ [(bx, by')]) : List (Int × Int)).length = k) := Lib.hid (by first | exact hk | exact hj)
  have HT : Hid (k + ([] : List (Int × Int)).length = k) := Lib.hid (by simp; try omega)
  have eL : (bx + by' == a) = false := by simpa using hL
  have eR : (cx == a + n) = false := by simp; omega
  have eR2 : decide (cx < a + n) = false := decide_eq_false (by omega)
  have hcc : a + n ≤ 65536 := by omega
  clear hv hh hn hz hw hc hll hlq hk hk' hN hR hj hL hRr hlc
  go_enter Try.func11, Try.ntmps11
  go_wp2_with fail
  refine HC.out.mono ?_
  rintro e w1 ⟨rfl, rfl⟩
  go_wp2_with fail
  refine HN.out.mono ?_
  rintro e w1 ⟨rfl, b1⟩
  have c1 := (HV.out.below b1).mv.c1
  obtain ⟨l0, l1'⟩ := (HRB.out.kept b1).pair
  obtain ⟨m0, m1⟩ := (HRC.out.kept b1).pair
  have HB := Lib.hid b1
  clear b1
  go_wp2_with fail
  refine (end_ok bx by' _ (by omega) (by omega) (by omega)).mono ?_
  rintro e w2 ⟨rfl, b2⟩
  have b2 := next HB.out b2
  have c2 := (HV.out.below b2).mv.c1
  obtain ⟨l2, l3⟩ := (HRB.out.kept b2).pair
  obtain ⟨m2, m3⟩ := (HRC.out.kept b2).pair
  have HB2 := Lib.hid b2
  clear b2
  go_wp2_with fail
  refine (HPL.out _ (H.out.below (next HB2.out (boxed _ _))) k (k) HF.out HT.out _ (src_lit _ _ _)).mono ?_
  rintro e w7 ⟨rfl, hM, hK⟩
  go_wp2
  go_ret
  exact ⟨rfl, hM, (H.out.keep (next HB2.out (boxed _ _))).trans hK⟩
set_option maxHeartbeats 2000000 in
theorem take_ny (B : Nat) (x : Nat → Prop) (w : World) (b : Nat) (z a n : Int) (l : List (Int × Int)) (p : List (Int × Int)) (bx by' : Int) (q : List (Int × Int)) (cx cy : Int) (h : MapIn B x w b z l) (hw : WF z l) (hz : 0 ≤ z ∧ z ≤ 65536) (hn : I64 n) (hh : hasB z a n = true) (hc : Cut l (p ++ [(bx, by')]) ((cx, cy) :: q) a) (hL : bx + by' ≠ a) (hRr : cx = a + n) :
    Calls Try.prog 11 #[.pointer (some ⟨b, 0, none⟩), .int .i64 a, .int .i64 n] w (Did B x w b z ((p ++ [(bx, by')]) ++ ([(a, cx + cy - a)] ++ q)) 0) := by
  have HN := Lib.hid (next_ok h hw hz hc _ rfl)
  obtain ⟨n1, a0, anz⟩ := hasB_true hh
  have H := Lib.hid h
  obtain ⟨v, hv⟩ := h
  have HC := Lib.hid (has_ok z a n b w hv.mv.c0 hz hn)
  rw [hh] at HC
  have hll := hw.len hz
  have z1 := hz.2
  have hlq : l = (p ++ [(bx, by')]) ++ ([(cx, cy)] ++ q) := by rw [hc.eq]; simp
  have hpl : ∀ W, MapIn B x W b z l → ∀ (f t : Nat), ((p ++ [(bx, by')]) : List (Int × Int)).length = f → f + ([(cx, cy)] : List (Int × Int)).length = t → ∀ vx, SrcR W vx [(a, cx + cy - a)] → Calls Try.prog 26 #[.pointer (some ⟨b, 0, none⟩), .int .i64 (f : Int), .int .i64 (t : Int), vx] W fun e w' => e = .returned (.tuple #[]) ∧ MapIn B x w' b z ((p ++ [(bx, by')]) ++ ([(a, cx + cy - a)] ++ q)) ∧ KeptX B x W w' :=
    fun W hW f t hf ht vx hs => put_ok (by rw [← hlq]; exact hW) f t hf ht vx hs (fun _ => by simp) (by rw [← hlq]; omega) (by simp)
  have HPL := Lib.hid hpl
  clear hpl
  obtain ⟨g, N, cc, rfl, hN, hR⟩ := hv.row (by rw [hc.eq]; simp; try omega)
  have HV := Lib.hid hv
  have hlb : p.length < l.length := by rw [hc.eq]; simp; try omega
  have hrb := hR.is p.length hlb
  have heb : l[p.length] = (bx, by') := by have := hc.eq; subst this; simp
  rw [heb] at hrb
  obtain ⟨u0, u1, u2⟩ : 0 ≤ bx ∧ 1 ≤ by' ∧ bx + by' ≤ z := hw.ok (bx, by') (by rw [hc.eq]; simp)
  have HRB := Lib.hid hrb
  clear hrb heb hlb
  have hlc : p.length + 1 < l.length := by rw [hc.eq]; simp; try omega
  have hrc := hR.is (p.length + 1) hlc
  have hec : l[p.length + 1] = (cx, cy) := by have := hc.eq; subst this; simp
  rw [hec] at hrc
  obtain ⟨s0, s1, s2⟩ : 0 ≤ cx ∧ 1 ≤ cy ∧ cx + cy ≤ z := hw.ok (cx, cy) (by rw [hc.eq]; simp)
  have HRC := Lib.hid hrc
  clear hrc hec
  obtain ⟨k, hk⟩ : ∃ k : Nat, (p ++ [(bx, by')] : List (Int × Int)).length = k := ⟨_, rfl⟩
  have hk' : p.length + 1 = k := by rw [← hk]; simp
  obtain ⟨j, hj⟩ : ∃ j : Nat, p.length = j := ⟨_, rfl⟩
  rw [hj] at HRB hk'
  rw [hj] at HRC
  rw [hk'] at HRC
  rw [hk] at HN
  have hkN : k < N := by rw [← hN, ← hk, hc.eq]; simp
  have dN : decide ((k : Int) < (N : Int)) = true := by simp; omega
  have dk : decide ((0 : Int) < (k : Int)) = true := by simp; omega
  have hk0 : 0 < k := by omega
  have dj : (k : Int) - 1 = (j : Int) := by omega
  have djN : j < N := by rw [← hN, ← hj, hc.eq]; simp; try omega
  have hkl : k ≤ 65536 := by rw [← hk]; have := hll; rw [hc.eq, List.length_append] at this; omega
  have HF : Hid (((p ++ [(bx, by')]) : List (Int × Int)).length = k) := Lib.hid (by first | exact hk | exact hj)
  have HT : Hid (k + ([(cx, cy)] : List (Int × Int)).length = k + 1) := Lib.hid (by simp; try omega)
  have eL : (bx + by' == a) = false := by simpa using hL
  have eR : (cx == a + n) = true := by simp; omega
  have eR2 : decide (cx < a + n) = false := decide_eq_false (by omega)
  have HRr := Lib.hid hRr
  have hcc : cx + cy ≤ 65536 := by omega
  clear hv hh hn hz hw hc hll hlq hk hk' hN hR hj hL hRr hlc
  go_enter Try.func11, Try.ntmps11
  go_wp2_with fail
  refine HC.out.mono ?_
  rintro e w1 ⟨rfl, rfl⟩
  go_wp2_with fail
  refine HN.out.mono ?_
  rintro e w1 ⟨rfl, b1⟩
  have c1 := (HV.out.below b1).mv.c1
  obtain ⟨l0, l1'⟩ := (HRB.out.kept b1).pair
  obtain ⟨m0, m1⟩ := (HRC.out.kept b1).pair
  have HB := Lib.hid b1
  clear b1
  go_wp2_with fail
  refine (end_ok bx by' _ (by omega) (by omega) (by omega)).mono ?_
  rintro e w2 ⟨rfl, b2⟩
  have b2 := next HB.out b2
  have c2 := (HV.out.below b2).mv.c1
  obtain ⟨l2, l3⟩ := (HRB.out.kept b2).pair
  obtain ⟨m2, m3⟩ := (HRC.out.kept b2).pair
  have HB2 := Lib.hid b2
  clear b2
  go_wp2_with fail
  refine (end_ok cx cy _ (by omega) (by omega) (by omega)).mono ?_
  rintro e w3 ⟨rfl, b2⟩
  have b2 := next HB2.out b2
  have c2 := (HV.out.below b2).mv.c1
  obtain ⟨l2, l3⟩ := (HRB.out.kept b2).pair
  obtain ⟨m2, m3⟩ := (HRC.out.kept b2).pair
  have HB3 := Lib.hid b2
  clear b2
  go_wp2_with fail
  refine (HPL.out _ (H.out.below (next HB3.out (boxed _ _))) k (k + 1) HF.out HT.out _ (src_lit _ _ _)).mono ?_
  rintro e w7 ⟨rfl, hM, hK⟩
  go_wp2
  go_ret
  exact ⟨rfl, hM, (H.out.keep (next HB3.out (boxed _ _))).trans hK⟩
set_option maxHeartbeats 2000000 in
theorem take_yx (B : Nat) (x : Nat → Prop) (w : World) (b : Nat) (z a n : Int) (l : List (Int × Int)) (p : List (Int × Int)) (bx by' : Int) (h : MapIn B x w b z l) (hw : WF z l) (hz : 0 ≤ z ∧ z ≤ 65536) (hn : I64 n) (hh : hasB z a n = true) (hc : Cut l (p ++ [(bx, by')]) ([]) a) (hL : bx + by' = a) :
    Calls Try.prog 11 #[.pointer (some ⟨b, 0, none⟩), .int .i64 a, .int .i64 n] w (Did B x w b z (p ++ ([(bx, a + n - bx)] ++ [])) 0) := by
  have HN := Lib.hid (next_ok h hw hz hc _ rfl)
  obtain ⟨n1, a0, anz⟩ := hasB_true hh
  have H := Lib.hid h
  obtain ⟨v, hv⟩ := h
  have HC := Lib.hid (has_ok z a n b w hv.mv.c0 hz hn)
  rw [hh] at HC
  have hll := hw.len hz
  have z1 := hz.2
  have hlq : l = p ++ ([(bx, by')] ++ []) := by rw [hc.eq]; simp
  have hpl : ∀ W, MapIn B x W b z l → ∀ (f t : Nat), (p : List (Int × Int)).length = f → f + ([(bx, by')] : List (Int × Int)).length = t → ∀ vx, SrcR W vx [(bx, a + n - bx)] → Calls Try.prog 26 #[.pointer (some ⟨b, 0, none⟩), .int .i64 (f : Int), .int .i64 (t : Int), vx] W fun e w' => e = .returned (.tuple #[]) ∧ MapIn B x w' b z (p ++ ([(bx, a + n - bx)] ++ [])) ∧ KeptX B x W w' :=
    fun W hW f t hf ht vx hs => put_ok (by rw [← hlq]; exact hW) f t hf ht vx hs (fun _ => by simp) (by rw [← hlq]; omega) (by simp)
  have HPL := Lib.hid hpl
  clear hpl
  obtain ⟨g, N, cc, rfl, hN, hR⟩ := hv.row (by rw [hc.eq]; simp; try omega)
  have HV := Lib.hid hv
  have hlb : p.length < l.length := by rw [hc.eq]; simp; try omega
  have hrb := hR.is p.length hlb
  have heb : l[p.length] = (bx, by') := by have := hc.eq; subst this; simp
  rw [heb] at hrb
  obtain ⟨u0, u1, u2⟩ : 0 ≤ bx ∧ 1 ≤ by' ∧ bx + by' ≤ z := hw.ok (bx, by') (by rw [hc.eq]; simp)
  have HRB := Lib.hid hrb
  clear hrb heb hlb
  obtain ⟨k, hk⟩ : ∃ k : Nat, (p ++ [(bx, by')] : List (Int × Int)).length = k := ⟨_, rfl⟩
  have hk' : p.length + 1 = k := by rw [← hk]; simp
  obtain ⟨j, hj⟩ : ∃ j : Nat, p.length = j := ⟨_, rfl⟩
  rw [hj] at HRB hk'
  rw [hk] at HN
  have hkN : ¬ k < N := by rw [← hN, ← hk, hc.eq]; simp
  have dN : decide ((k : Int) < (N : Int)) = false := by simp; omega
  have dk : decide ((0 : Int) < (k : Int)) = true := by simp; omega
  have hk0 : 0 < k := by omega
  have dj : (k : Int) - 1 = (j : Int) := by omega
  have djN : j < N := by rw [← hN, ← hj, hc.eq]; simp; try omega
  have hkl : k ≤ 65536 := by rw [← hk]; have := hll; rw [hc.eq, List.length_append] at this; omega
  have HF : Hid ((p : List (Int × Int)).length = j) := Lib.hid (by first | exact hk | exact hj)
  have HT : Hid (j + ([(bx, by')] : List (Int × Int)).length = k) := Lib.hid (by simp; try omega)
  have eL : (bx + by' == a) = true := by simpa using hL
  have hcc : a + n ≤ 65536 := by omega
  clear hv hh hn hz hw hc hll hlq hk hk' hN hR hj hL
  go_enter Try.func11, Try.ntmps11
  go_wp2_with fail
  refine HC.out.mono ?_
  rintro e w1 ⟨rfl, rfl⟩
  go_wp2_with fail
  refine HN.out.mono ?_
  rintro e w1 ⟨rfl, b1⟩
  have c1 := (HV.out.below b1).mv.c1
  obtain ⟨l0, l1'⟩ := (HRB.out.kept b1).pair
  have HB := Lib.hid b1
  clear b1
  go_wp2_with fail
  refine (end_ok bx by' _ (by omega) (by omega) (by omega)).mono ?_
  rintro e w2 ⟨rfl, b2⟩
  have b2 := next HB.out b2
  have c2 := (HV.out.below b2).mv.c1
  obtain ⟨l2, l3⟩ := (HRB.out.kept b2).pair
  have HB2 := Lib.hid b2
  clear b2
  go_wp2_with fail
  refine (HPL.out _ (H.out.below (next HB2.out (boxed _ _))) j (k) HF.out HT.out _ (src_lit _ _ _)).mono ?_
  rintro e w7 ⟨rfl, hM, hK⟩
  go_wp2
  go_ret
  exact ⟨rfl, hM, (H.out.keep (next HB2.out (boxed _ _))).trans hK⟩
set_option maxHeartbeats 2000000 in
theorem take_yn (B : Nat) (x : Nat → Prop) (w : World) (b : Nat) (z a n : Int) (l : List (Int × Int)) (p : List (Int × Int)) (bx by' : Int) (q : List (Int × Int)) (cx cy : Int) (h : MapIn B x w b z l) (hw : WF z l) (hz : 0 ≤ z ∧ z ≤ 65536) (hn : I64 n) (hh : hasB z a n = true) (hc : Cut l (p ++ [(bx, by')]) ((cx, cy) :: q) a) (hL : bx + by' = a) (hRr : a + n < cx) :
    Calls Try.prog 11 #[.pointer (some ⟨b, 0, none⟩), .int .i64 a, .int .i64 n] w (Did B x w b z (p ++ ([(bx, a + n - bx)] ++ ((cx, cy) :: q))) 0) := by
  have HN := Lib.hid (next_ok h hw hz hc _ rfl)
  obtain ⟨n1, a0, anz⟩ := hasB_true hh
  have H := Lib.hid h
  obtain ⟨v, hv⟩ := h
  have HC := Lib.hid (has_ok z a n b w hv.mv.c0 hz hn)
  rw [hh] at HC
  have hll := hw.len hz
  have z1 := hz.2
  have hlq : l = p ++ ([(bx, by')] ++ ((cx, cy) :: q)) := by rw [hc.eq]; simp
  have hpl : ∀ W, MapIn B x W b z l → ∀ (f t : Nat), (p : List (Int × Int)).length = f → f + ([(bx, by')] : List (Int × Int)).length = t → ∀ vx, SrcR W vx [(bx, a + n - bx)] → Calls Try.prog 26 #[.pointer (some ⟨b, 0, none⟩), .int .i64 (f : Int), .int .i64 (t : Int), vx] W fun e w' => e = .returned (.tuple #[]) ∧ MapIn B x w' b z (p ++ ([(bx, a + n - bx)] ++ ((cx, cy) :: q))) ∧ KeptX B x W w' :=
    fun W hW f t hf ht vx hs => put_ok (by rw [← hlq]; exact hW) f t hf ht vx hs (fun _ => by simp) (by rw [← hlq]; omega) (by simp)
  have HPL := Lib.hid hpl
  clear hpl
  obtain ⟨g, N, cc, rfl, hN, hR⟩ := hv.row (by rw [hc.eq]; simp; try omega)
  have HV := Lib.hid hv
  have hlb : p.length < l.length := by rw [hc.eq]; simp; try omega
  have hrb := hR.is p.length hlb
  have heb : l[p.length] = (bx, by') := by have := hc.eq; subst this; simp
  rw [heb] at hrb
  obtain ⟨u0, u1, u2⟩ : 0 ≤ bx ∧ 1 ≤ by' ∧ bx + by' ≤ z := hw.ok (bx, by') (by rw [hc.eq]; simp)
  have HRB := Lib.hid hrb
  clear hrb heb hlb
  have hlc : p.length + 1 < l.length := by rw [hc.eq]; simp; try omega
  have hrc := hR.is (p.length + 1) hlc
  have hec : l[p.length + 1] = (cx, cy) := by have := hc.eq; subst this; simp
  rw [hec] at hrc
  obtain ⟨s0, s1, s2⟩ : 0 ≤ cx ∧ 1 ≤ cy ∧ cx + cy ≤ z := hw.ok (cx, cy) (by rw [hc.eq]; simp)
  have HRC := Lib.hid hrc
  clear hrc hec
  obtain ⟨k, hk⟩ : ∃ k : Nat, (p ++ [(bx, by')] : List (Int × Int)).length = k := ⟨_, rfl⟩
  have hk' : p.length + 1 = k := by rw [← hk]; simp
  obtain ⟨j, hj⟩ : ∃ j : Nat, p.length = j := ⟨_, rfl⟩
  rw [hj] at HRB hk'
  rw [hj] at HRC
  rw [hk'] at HRC
  rw [hk] at HN
  have hkN : k < N := by rw [← hN, ← hk, hc.eq]; simp
  have dN : decide ((k : Int) < (N : Int)) = true := by simp; omega
  have dk : decide ((0 : Int) < (k : Int)) = true := by simp; omega
  have hk0 : 0 < k := by omega
  have dj : (k : Int) - 1 = (j : Int) := by omega
  have djN : j < N := by rw [← hN, ← hj, hc.eq]; simp; try omega
  have hkl : k ≤ 65536 := by rw [← hk]; have := hll; rw [hc.eq, List.length_append] at this; omega
  have HF : Hid ((p : List (Int × Int)).length = j) := Lib.hid (by first | exact hk | exact hj)
  have HT : Hid (j + ([(bx, by')] : List (Int × Int)).length = k) := Lib.hid (by simp; try omega)
  have eL : (bx + by' == a) = true := by simpa using hL
  have eR : (cx == a + n) = false := by simp; omega
  have eR2 : decide (cx < a + n) = false := decide_eq_false (by omega)
  have hcc : a + n ≤ 65536 := by omega
  clear hv hh hn hz hw hc hll hlq hk hk' hN hR hj hL hRr hlc
  go_enter Try.func11, Try.ntmps11
  go_wp2_with fail
  refine HC.out.mono ?_
  rintro e w1 ⟨rfl, rfl⟩
  go_wp2_with fail
  refine HN.out.mono ?_
  rintro e w1 ⟨rfl, b1⟩
  have c1 := (HV.out.below b1).mv.c1
  obtain ⟨l0, l1'⟩ := (HRB.out.kept b1).pair
  obtain ⟨m0, m1⟩ := (HRC.out.kept b1).pair
  have HB := Lib.hid b1
  clear b1
  go_wp2_with fail
  refine (end_ok bx by' _ (by omega) (by omega) (by omega)).mono ?_
  rintro e w2 ⟨rfl, b2⟩
  have b2 := next HB.out b2
  have c2 := (HV.out.below b2).mv.c1
  obtain ⟨l2, l3⟩ := (HRB.out.kept b2).pair
  obtain ⟨m2, m3⟩ := (HRC.out.kept b2).pair
  have HB2 := Lib.hid b2
  clear b2
  go_wp2_with fail
  refine (HPL.out _ (H.out.below (next HB2.out (boxed _ _))) j (k) HF.out HT.out _ (src_lit _ _ _)).mono ?_
  rintro e w7 ⟨rfl, hM, hK⟩
  go_wp2
  go_ret
  exact ⟨rfl, hM, (H.out.keep (next HB2.out (boxed _ _))).trans hK⟩
set_option maxHeartbeats 2000000 in
theorem take_yy (B : Nat) (x : Nat → Prop) (w : World) (b : Nat) (z a n : Int) (l : List (Int × Int)) (p : List (Int × Int)) (bx by' : Int) (q : List (Int × Int)) (cx cy : Int) (h : MapIn B x w b z l) (hw : WF z l) (hz : 0 ≤ z ∧ z ≤ 65536) (hn : I64 n) (hh : hasB z a n = true) (hc : Cut l (p ++ [(bx, by')]) ((cx, cy) :: q) a) (hL : bx + by' = a) (hRr : cx = a + n) :
    Calls Try.prog 11 #[.pointer (some ⟨b, 0, none⟩), .int .i64 a, .int .i64 n] w (Did B x w b z (p ++ ([(bx, cx + cy - bx)] ++ q)) 0) := by
  have HN := Lib.hid (next_ok h hw hz hc _ rfl)
  obtain ⟨n1, a0, anz⟩ := hasB_true hh
  have H := Lib.hid h
  obtain ⟨v, hv⟩ := h
  have HC := Lib.hid (has_ok z a n b w hv.mv.c0 hz hn)
  rw [hh] at HC
  have hll := hw.len hz
  have z1 := hz.2
  have hlq : l = p ++ (([(bx, by')] ++ [(cx, cy)]) ++ q) := by rw [hc.eq]; simp
  have hpl : ∀ W, MapIn B x W b z l → ∀ (f t : Nat), (p : List (Int × Int)).length = f → f + (([(bx, by')] ++ [(cx, cy)]) : List (Int × Int)).length = t → ∀ vx, SrcR W vx [(bx, cx + cy - bx)] → Calls Try.prog 26 #[.pointer (some ⟨b, 0, none⟩), .int .i64 (f : Int), .int .i64 (t : Int), vx] W fun e w' => e = .returned (.tuple #[]) ∧ MapIn B x w' b z (p ++ ([(bx, cx + cy - bx)] ++ q)) ∧ KeptX B x W w' :=
    fun W hW f t hf ht vx hs => put_ok (by rw [← hlq]; exact hW) f t hf ht vx hs (fun _ => by simp) (by rw [← hlq]; omega) (by simp)
  have HPL := Lib.hid hpl
  clear hpl
  obtain ⟨g, N, cc, rfl, hN, hR⟩ := hv.row (by rw [hc.eq]; simp; try omega)
  have HV := Lib.hid hv
  have hlb : p.length < l.length := by rw [hc.eq]; simp; try omega
  have hrb := hR.is p.length hlb
  have heb : l[p.length] = (bx, by') := by have := hc.eq; subst this; simp
  rw [heb] at hrb
  obtain ⟨u0, u1, u2⟩ : 0 ≤ bx ∧ 1 ≤ by' ∧ bx + by' ≤ z := hw.ok (bx, by') (by rw [hc.eq]; simp)
  have HRB := Lib.hid hrb
  clear hrb heb hlb
  have hlc : p.length + 1 < l.length := by rw [hc.eq]; simp; try omega
  have hrc := hR.is (p.length + 1) hlc
  have hec : l[p.length + 1] = (cx, cy) := by have := hc.eq; subst this; simp
  rw [hec] at hrc
  obtain ⟨s0, s1, s2⟩ : 0 ≤ cx ∧ 1 ≤ cy ∧ cx + cy ≤ z := hw.ok (cx, cy) (by rw [hc.eq]; simp)
  have HRC := Lib.hid hrc
  clear hrc hec
  obtain ⟨k, hk⟩ : ∃ k : Nat, (p ++ [(bx, by')] : List (Int × Int)).length = k := ⟨_, rfl⟩
  have hk' : p.length + 1 = k := by rw [← hk]; simp
  obtain ⟨j, hj⟩ : ∃ j : Nat, p.length = j := ⟨_, rfl⟩
  rw [hj] at HRB hk'
  rw [hj] at HRC
  rw [hk'] at HRC
  rw [hk] at HN
  have hkN : k < N := by rw [← hN, ← hk, hc.eq]; simp
  have dN : decide ((k : Int) < (N : Int)) = true := by simp; omega
  have dk : decide ((0 : Int) < (k : Int)) = true := by simp; omega
  have hk0 : 0 < k := by omega
  have dj : (k : Int) - 1 = (j : Int) := by omega
  have djN : j < N := by rw [← hN, ← hj, hc.eq]; simp; try omega
  have hkl : k ≤ 65536 := by rw [← hk]; have := hll; rw [hc.eq, List.length_append] at this; omega
  have HF : Hid ((p : List (Int × Int)).length = j) := Lib.hid (by first | exact hk | exact hj)
  have HT : Hid (j + (([(bx, by')] ++ [(cx, cy)]) : List (Int × Int)).length = k + 1) := Lib.hid (by simp; try omega)
  have eL : (bx + by' == a) = true := by simpa using hL
  have eR : (cx == a + n) = true := by simp; omega
  have eR2 : decide (cx < a + n) = false := decide_eq_false (by omega)
  have HRr := Lib.hid hRr
  have hcc : cx + cy ≤ 65536 := by omega
  clear hv hh hn hz hw hc hll hlq hk hk' hN hR hj hL hRr hlc
  go_enter Try.func11, Try.ntmps11
  go_wp2_with fail
  refine HC.out.mono ?_
  rintro e w1 ⟨rfl, rfl⟩
  go_wp2_with fail
  refine HN.out.mono ?_
  rintro e w1 ⟨rfl, b1⟩
  have c1 := (HV.out.below b1).mv.c1
  obtain ⟨l0, l1'⟩ := (HRB.out.kept b1).pair
  obtain ⟨m0, m1⟩ := (HRC.out.kept b1).pair
  have HB := Lib.hid b1
  clear b1
  go_wp2_with fail
  refine (end_ok bx by' _ (by omega) (by omega) (by omega)).mono ?_
  rintro e w2 ⟨rfl, b2⟩
  have b2 := next HB.out b2
  have c2 := (HV.out.below b2).mv.c1
  obtain ⟨l2, l3⟩ := (HRB.out.kept b2).pair
  obtain ⟨m2, m3⟩ := (HRC.out.kept b2).pair
  have HB2 := Lib.hid b2
  clear b2
  go_wp2_with fail
  refine (end_ok cx cy _ (by omega) (by omega) (by omega)).mono ?_
  rintro e w3 ⟨rfl, b2⟩
  have b2 := next HB2.out b2
  have c2 := (HV.out.below b2).mv.c1
  obtain ⟨l2, l3⟩ := (HRB.out.kept b2).pair
  obtain ⟨m2, m3⟩ := (HRC.out.kept b2).pair
  have HB3 := Lib.hid b2
  clear b2
  go_wp2_with fail
  refine (HPL.out _ (H.out.below (next HB3.out (boxed _ _))) j (k + 1) HF.out HT.out _ (src_lit _ _ _)).mono ?_
  rintro e w7 ⟨rfl, hM, hK⟩
  go_wp2
  go_ret
  exact ⟨rfl, hM, (H.out.keep (next HB3.out (boxed _ _))).trans hK⟩
end Go.Proofs.Ytoiiaacjpobaeaa
