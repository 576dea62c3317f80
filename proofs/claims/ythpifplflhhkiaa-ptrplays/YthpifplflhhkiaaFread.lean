/-
  fletch.Read: what it answers.
-/
import Derived.Test.YthpifplflhhkiaaFby
import Derived.Test.YthpifplflhhkiaaMeth
namespace Go.Proofs.Ythpifplflhhkiaa
set_option maxRecDepth 100000
open Go.RowKit Go.Shelf M

theorem HoldsQ.setB {W : World} {b d : Nat} {q : Q} (h : HoldsQ W d q) (hne : d ≠ b) (t : ByteArray) : HoldsQ (setB W b t) d q := by
  obtain ⟨h0, h1, h2, h3, f0, f1, f2, f3⟩ := h
  have hne' : b ≠ d := fun e => hne e.symm
  refine ⟨?_, ?_, ?_, ?_, ?_, ?_, ?_, ?_⟩
  all_goals simp [Go.Proofs.Ythpifplflhhkiaa.setB, World.cell?_setCell_other, h0, h1, h2, h3, f0, f1, f2, f3]
theorem HoldsQ.set0 {W : World} {b : Nat} {q : Q} (h : HoldsQ W b q) (n : Nat) : HoldsQ (W.setCell ⟨b, 0, none⟩ (.int .u64 n)) b ⟨n, q.b, q.c, q.d⟩ := by
  obtain ⟨h0, h1, h2, h3, f0, f1, f2, f3⟩ := h
  refine ⟨?_, ?_, ?_, ?_, ?_, ?_, ?_, ?_⟩
  all_goals simp [World.cell?_setCell_other, World.cell?_setCell_same', h0, h1, h2, h3, f0, f1, f2, f3]
theorem HoldsQ.set1 {W : World} {b : Nat} {q : Q} (h : HoldsQ W b q) (n : Nat) : HoldsQ (W.setCell ⟨b, 1, none⟩ (.int .u64 n)) b ⟨q.a, n, q.c, q.d⟩ := by
  obtain ⟨h0, h1, h2, h3, f0, f1, f2, f3⟩ := h
  refine ⟨?_, ?_, ?_, ?_, ?_, ?_, ?_, ?_⟩
  all_goals simp [World.cell?_setCell_other, World.cell?_setCell_same', h0, h1, h2, h3, f0, f1, f2, f3]
theorem HoldsQ.set2 {W : World} {b : Nat} {q : Q} (h : HoldsQ W b q) (n : Nat) : HoldsQ (W.setCell ⟨b, 2, none⟩ (.int .u64 n)) b ⟨q.a, q.b, n, q.d⟩ := by
  obtain ⟨h0, h1, h2, h3, f0, f1, f2, f3⟩ := h
  refine ⟨?_, ?_, ?_, ?_, ?_, ?_, ?_, ?_⟩
  all_goals simp [World.cell?_setCell_other, World.cell?_setCell_same', h0, h1, h2, h3, f0, f1, f2, f3]
theorem HoldsQ.set3 {W : World} {b : Nat} {q : Q} (h : HoldsQ W b q) (n : Nat) : HoldsQ (W.setCell ⟨b, 3, none⟩ (.int .u64 n)) b ⟨q.a, q.b, q.c, n⟩ := by
  obtain ⟨h0, h1, h2, h3, f0, f1, f2, f3⟩ := h
  refine ⟨?_, ?_, ?_, ?_, ?_, ?_, ?_, ?_⟩
  all_goals simp [World.cell?_setCell_other, World.cell?_setCell_same', h0, h1, h2, h3, f0, f1, f2, f3]
theorem HoldsQ.setFar {W : World} {b d i : Nat} {q : Q} (h : HoldsQ W d q) (hne : d ≠ b) (v : Value) : HoldsQ (W.setCell ⟨b, i, none⟩ v) d q := by
  obtain ⟨h0, h1, h2, h3, f0, f1, f2, f3⟩ := h
  have hne' : b ≠ d := fun e => hne e.symm
  refine ⟨?_, ?_, ?_, ?_, ?_, ?_, ?_, ?_⟩
  all_goals simp [World.cell?_setCell_other, h0, h1, h2, h3, f0, f1, f2, f3]
theorem Has.setFar {W : World} {b d i : Nat} {s : ByteArray} (h : Has W d s) (hne : d ≠ b) (v : Value) : Has (W.setCell ⟨b, i, none⟩ v) d s := by
  refine ⟨?_, ?_, ?_⟩
  · rw [World.cell?_of_block (w := W) (Below.heap_setCell _ _ _ _ hne)]; exact h.1
  · simp [h.2.1]
  · simp [World.setCell]; exact h.2.2
/-- What Read stands on between two rounds: what is left, what was read, the answer's block, what was there at first. -/
structure RS (w0 : World) (B b br bx : Nat) (s : ByteArray) (q : Q) (w : World) : Prop where
  has : Has w b s
  x : HoldsQ w bx q
  r : HoldsQ w br zeroQ
  below : Below B w0 w
theorem RS.took {w0 w w' : World} {B b br bx : Nat} {s : ByteArray} {q : Q} (h : RS w0 B b br bx s q w) (hB : B ≤ b) (h1 : b < br) (h2 : br < bx) {t : ByteArray} (e : setB w b t = w') : RS w0 B b br bx t q w' := by
  subst e
  exact ⟨h.has.set t, h.x.setB (by omega) t, h.r.setB (by omega) t, h.below.trans (Has.belowSet hB t)⟩
theorem RS.put0 {w0 w : World} {B b br bx : Nat} {s : ByteArray} {q : Q} (h : RS w0 B b br bx s q w) (hB : B ≤ b) (h1 : b < br) (h2 : br < bx) (n : Nat) : RS w0 B b br bx s ⟨n, q.b, q.c, q.d⟩ (w.setCell ⟨bx, 0, none⟩ (.int .u64 n)) :=
  ⟨h.has.setFar (by omega) _, h.x.set0 n, h.r.setFar (by omega) _, h.below.setCell (p := ⟨bx, 0, none⟩) (by show B ≤ bx; omega) _⟩
theorem RS.put1 {w0 w : World} {B b br bx : Nat} {s : ByteArray} {q : Q} (h : RS w0 B b br bx s q w) (hB : B ≤ b) (h1 : b < br) (h2 : br < bx) (n : Nat) : RS w0 B b br bx s ⟨q.a, n, q.c, q.d⟩ (w.setCell ⟨bx, 1, none⟩ (.int .u64 n)) :=
  ⟨h.has.setFar (by omega) _, h.x.set1 n, h.r.setFar (by omega) _, h.below.setCell (p := ⟨bx, 1, none⟩) (by show B ≤ bx; omega) _⟩
theorem RS.put2 {w0 w : World} {B b br bx : Nat} {s : ByteArray} {q : Q} (h : RS w0 B b br bx s q w) (hB : B ≤ b) (h1 : b < br) (h2 : br < bx) (n : Nat) : RS w0 B b br bx s ⟨q.a, q.b, n, q.d⟩ (w.setCell ⟨bx, 2, none⟩ (.int .u64 n)) :=
  ⟨h.has.setFar (by omega) _, h.x.set2 n, h.r.setFar (by omega) _, h.below.setCell (p := ⟨bx, 2, none⟩) (by show B ≤ bx; omega) _⟩
theorem RS.put3 {w0 w : World} {B b br bx : Nat} {s : ByteArray} {q : Q} (h : RS w0 B b br bx s q w) (hB : B ≤ b) (h1 : b < br) (h2 : br < bx) (n : Nat) : RS w0 B b br bx s ⟨q.a, q.b, q.c, n⟩ (w.setCell ⟨bx, 3, none⟩ (.int .u64 n)) :=
  ⟨h.has.setFar (by omega) _, h.x.set3 n, h.r.setFar (by omega) _, h.below.setCell (p := ⟨bx, 3, none⟩) (by show B ≤ bx; omega) _⟩
theorem RS.start {w : World} {B b : Nat} {s : ByteArray} (h : Has w b s) (hB : B ≤ w.heap.size) (t : TypeId) :
    RS w B b w.heap.size (w.heap.size + 1) s zeroQ ((w.alloc (.cells #[.int .u64 0, .int .u64 0, .int .u64 0, .int .u64 0] t)).alloc (.cells #[.int .u64 0, .int .u64 0, .int .u64 0, .int .u64 0] t)) := by
  have hb : Below w.heap.size w ((w.alloc (.cells #[.int .u64 0, .int .u64 0, .int .u64 0, .int .u64 0] t)).alloc (.cells #[.int .u64 0, .int .u64 0, .int .u64 0, .int .u64 0] t)) := ((Below.refl _ w).alloc (Nat.le_refl _) _).alloc (by simp) _
  have h2 := HoldsQ.new (w.alloc (.cells #[.int .u64 0, .int .u64 0, .int .u64 0, .int .u64 0] t)) zeroQ t
  rw [World.size_alloc] at h2
  exact ⟨h.below hb h.2.2, h2, (HoldsQ.new w zeroQ t).below (B := w.heap.size + 1) ((Below.refl _ _).alloc (by simp) _) (by omega), hb.mono hB⟩
set_option maxHeartbeats 2000000 in
theorem read_ok (B b : Nat) (s : ByteArray) (w : World) (h : Has w b s) (hB : B ≤ b) (hn : 32 ≤ s.size) :
    Calls Try.prog 24 #[.pointer (some ⟨b, 0, none⟩)] w fun e w' => e = .returned (.tuple #[.agg #[.int .u64 (readQ s).a, .int .u64 (readQ s).b, .int .u64 (readQ s).c, .int .u64 (readQ s).d], .int .i64 0]) ∧ Has w' b (tailB s 32) ∧ Below B w w' := by
  have hbr : b < w.heap.size := h.2.2
  have h0 := RS.start (B := B) h (by omega) 26
  clear h
  go_enter Try.func24, Try.ntmps24
  go_wp2_with fail
  generalize (w.alloc (.cells #[.int .u64 0, .int .u64 0, .int .u64 0, .int .u64 0] 26)).alloc (.cells #[.int .u64 0, .int .u64 0, .int .u64 0, .int .u64 0] 26) = W0 at h0
  generalize hbrx : w.heap.size = br at h0 hbr
  have HBR := Lib.hid hbrx
  clear hbrx
  have hbx : br < br + 1 := Nat.lt_succ_self _
  refine wp_loop_rounds 5 ?_
  rw [rounds_succ]
  go_wp2_with fail
  refine (mU64_at b s _ h0.has (by omega)).mono ?_
  rintro e W0a ⟨rfl, e0⟩
  have h0a := h0.took hB hbr hbx e0
  clear e0 h0
  generalize hn0 : numL (s.data.toList.take 8) = n0
  have HN0 := Lib.hid hn0
  clear hn0
  have k0 := h0a.x.c0
  have k1 := h0a.x.c1
  have k2 := h0a.x.c2
  have k3 := h0a.x.c3
  have f0 := h0a.x.f0
  have f1 := h0a.x.f1
  have f2 := h0a.x.f2
  have f3 := h0a.x.f3
  go_wp2_with fail
  clear k0 k1 k2 k3 f0 f1 f2 f3
  have h1 : RS w B b br (br + 1) (tailB s 8) ⟨n0, 0, 0, 0⟩ _ := h0a.put0 hB hbr hbx n0
  clear h0a
  generalize W0a.setCell ⟨br + 1, 0, none⟩ (.int .u64 n0) = W1 at h1
  rw [rounds_succ]
  go_wp2_with fail
  refine (mU64_at b (tailB s 8) _ h1.has (by rw [tailB_size]; omega)).mono ?_
  rw [tail_at, tailB_list]
  rintro e W1a ⟨rfl, e1⟩
  have h1a := h1.took hB hbr hbx e1
  clear e1 h1
  generalize hn1 : numL ((s.data.toList.drop 8).take 8) = n1
  have HN1 := Lib.hid hn1
  clear hn1
  have k0 := h1a.x.c0
  have k1 := h1a.x.c1
  have k2 := h1a.x.c2
  have k3 := h1a.x.c3
  have f0 := h1a.x.f0
  have f1 := h1a.x.f1
  have f2 := h1a.x.f2
  have f3 := h1a.x.f3
  go_wp2_with fail
  clear k0 k1 k2 k3 f0 f1 f2 f3
  have h2 : RS w B b br (br + 1) (tailB s 16) ⟨n0, n1, 0, 0⟩ _ := h1a.put1 hB hbr hbx n1
  clear h1a
  generalize W1a.setCell ⟨br + 1, 1, none⟩ (.int .u64 n1) = W2 at h2
  rw [rounds_succ]
  go_wp2_with fail
  refine (mU64_at b (tailB s 16) _ h2.has (by rw [tailB_size]; omega)).mono ?_
  rw [tail_at, tailB_list]
  rintro e W2a ⟨rfl, e2⟩
  have h2a := h2.took hB hbr hbx e2
  clear e2 h2
  generalize hn2 : numL ((s.data.toList.drop 16).take 8) = n2
  have HN2 := Lib.hid hn2
  clear hn2
  have k0 := h2a.x.c0
  have k1 := h2a.x.c1
  have k2 := h2a.x.c2
  have k3 := h2a.x.c3
  have f0 := h2a.x.f0
  have f1 := h2a.x.f1
  have f2 := h2a.x.f2
  have f3 := h2a.x.f3
  go_wp2_with fail
  clear k0 k1 k2 k3 f0 f1 f2 f3
  have h3 : RS w B b br (br + 1) (tailB s 24) ⟨n0, n1, n2, 0⟩ _ := h2a.put2 hB hbr hbx n2
  clear h2a
  generalize W2a.setCell ⟨br + 1, 2, none⟩ (.int .u64 n2) = W3 at h3
  rw [rounds_succ]
  go_wp2_with fail
  refine (mU64_at b (tailB s 24) _ h3.has (by rw [tailB_size]; omega)).mono ?_
  rw [tail_at, tailB_list]
  rintro e W3a ⟨rfl, e3⟩
  have h3a := h3.took hB hbr hbx e3
  clear e3 h3
  generalize hn3 : numL ((s.data.toList.drop 24).take 8) = n3
  have HN3 := Lib.hid hn3
  clear hn3
  have k0 := h3a.x.c0
  have k1 := h3a.x.c1
  have k2 := h3a.x.c2
  have k3 := h3a.x.c3
  have f0 := h3a.x.f0
  have f1 := h3a.x.f1
  have f2 := h3a.x.f2
  have f3 := h3a.x.f3
  go_wp2_with fail
  clear k0 k1 k2 k3 f0 f1 f2 f3
  have h4 : RS w B b br (br + 1) (tailB s 32) ⟨n0, n1, n2, n3⟩ _ := h3a.put3 hB hbr hbx n3
  clear h3a
  generalize W3a.setCell ⟨br + 1, 3, none⟩ (.int .u64 n3) = W4 at h4
  rw [rounds_succ]
  have k0 := h4.x.c0
  have k1 := h4.x.c1
  have k2 := h4.x.c2
  have k3 := h4.x.c3
  have f0 := h4.x.f0
  have f1 := h4.x.f1
  have f2 := h4.x.f2
  have f3 := h4.x.f3
  have r0 := h4.r.c0
  have r1 := h4.r.c1
  have r2 := h4.r.c2
  have r3 := h4.r.c3
  have g0 := h4.r.f0
  have g1 := h4.r.f1
  have g2 := h4.r.f2
  have g3 := h4.r.f3
  go_wp2
  have hp := h4.r.put ⟨n0, n1, n2, n3⟩
  refine bodyPost_ret (v := .tuple #[.agg #[.int .u64 n0, .int .u64 n1, .int .u64 n2, .int .u64 n3], .int .i64 0]) ?_ rfl ⟨?_, ?_, ?_⟩
  · have p0 := hp.c0
    have p1 := hp.c1
    have p2 := hp.c2
    have p3 := hp.c3
    unfold putQ at p0 p1 p2 p3
    simp [results, Try.results24, go_sem, p0, p1, p2, p3]
  · rw [← HN0.out, ← HN1.out, ← HN2.out, ← HN3.out]; rfl
  · exact h4.has.below (B := b + 1) (putQ_below (b := br) (by omega) ⟨n0, n1, n2, n3⟩) (by omega)
  · exact h4.below.trans (putQ_below (by omega) ⟨n0, n1, n2, n3⟩)
set_option maxHeartbeats 2000000 in
theorem read_short0 (B b : Nat) (s : ByteArray) (w : World) (h : Has w b s) (hB : B ≤ b) (_hn : 0 ≤ s.size) (hm : s.size < 8) :
    Calls Try.prog 24 #[.pointer (some ⟨b, 0, none⟩)] w fun e w' => e = .returned (.tuple #[.agg #[.int .u64 0, .int .u64 0, .int .u64 0, .int .u64 0], .int .i64 2]) ∧ Below B w w' := by
  have hbr : b < w.heap.size := h.2.2
  have h0 := RS.start (B := B) h (by omega) 26
  clear h
  go_enter Try.func24, Try.ntmps24
  go_wp2_with fail
  generalize (w.alloc (.cells #[.int .u64 0, .int .u64 0, .int .u64 0, .int .u64 0] 26)).alloc (.cells #[.int .u64 0, .int .u64 0, .int .u64 0, .int .u64 0] 26) = W0 at h0
  generalize hbrx : w.heap.size = br at h0 hbr
  have HBR := Lib.hid hbrx
  clear hbrx
  have hbx : br < br + 1 := Nat.lt_succ_self _
  refine wp_loop_rounds 5 ?_
  rw [rounds_succ]
  go_wp2_with fail
  refine (mU64_short b s _ h0.has (by omega)).mono ?_
  rintro e W0a ⟨rfl, rfl⟩
  have r0 := h0.r.c0
  have r1 := h0.r.c1
  have r2 := h0.r.c2
  have r3 := h0.r.c3
  have g0 := h0.r.f0
  have g1 := h0.r.f1
  have g2 := h0.r.f2
  have g3 := h0.r.f3
  go_wp2
  refine bodyPost_ret (v := .tuple #[.agg #[.int .u64 0, .int .u64 0, .int .u64 0, .int .u64 0], .int .i64 2]) ?_ rfl ⟨rfl, ?_⟩
  · simp [results, Try.results24, go_sem, World.cell?_setCell_other, r0, r1, r2, r3]
  · exact h0.below.trans (putQ_below (by omega) zeroQ)
set_option maxHeartbeats 2000000 in
theorem read_short1 (B b : Nat) (s : ByteArray) (w : World) (h : Has w b s) (hB : B ≤ b) (hn : 8 ≤ s.size) (hm : s.size < 16) :
    Calls Try.prog 24 #[.pointer (some ⟨b, 0, none⟩)] w fun e w' => e = .returned (.tuple #[.agg #[.int .u64 0, .int .u64 0, .int .u64 0, .int .u64 0], .int .i64 2]) ∧ Below B w w' := by
  have hbr : b < w.heap.size := h.2.2
  have h0 := RS.start (B := B) h (by omega) 26
  clear h
  go_enter Try.func24, Try.ntmps24
  go_wp2_with fail
  generalize (w.alloc (.cells #[.int .u64 0, .int .u64 0, .int .u64 0, .int .u64 0] 26)).alloc (.cells #[.int .u64 0, .int .u64 0, .int .u64 0, .int .u64 0] 26) = W0 at h0
  generalize hbrx : w.heap.size = br at h0 hbr
  have HBR := Lib.hid hbrx
  clear hbrx
  have hbx : br < br + 1 := Nat.lt_succ_self _
  refine wp_loop_rounds 5 ?_
  rw [rounds_succ]
  go_wp2_with fail
  refine (mU64_at b s _ h0.has (by omega)).mono ?_
  rintro e W0a ⟨rfl, e0⟩
  have h0a := h0.took hB hbr hbx e0
  clear e0 h0
  generalize hn0 : numL (s.data.toList.take 8) = n0
  have HN0 := Lib.hid hn0
  clear hn0
  have k0 := h0a.x.c0
  have k1 := h0a.x.c1
  have k2 := h0a.x.c2
  have k3 := h0a.x.c3
  have f0 := h0a.x.f0
  have f1 := h0a.x.f1
  have f2 := h0a.x.f2
  have f3 := h0a.x.f3
  go_wp2_with fail
  clear k0 k1 k2 k3 f0 f1 f2 f3
  have h1 : RS w B b br (br + 1) (tailB s 8) ⟨n0, 0, 0, 0⟩ _ := h0a.put0 hB hbr hbx n0
  clear h0a
  generalize W0a.setCell ⟨br + 1, 0, none⟩ (.int .u64 n0) = W1 at h1
  rw [rounds_succ]
  go_wp2_with fail
  refine (mU64_short b (tailB s 8) _ h1.has (by rw [tailB_size]; omega)).mono ?_
  rintro e W1a ⟨rfl, rfl⟩
  have r0 := h1.r.c0
  have r1 := h1.r.c1
  have r2 := h1.r.c2
  have r3 := h1.r.c3
  have g0 := h1.r.f0
  have g1 := h1.r.f1
  have g2 := h1.r.f2
  have g3 := h1.r.f3
  go_wp2
  refine bodyPost_ret (v := .tuple #[.agg #[.int .u64 0, .int .u64 0, .int .u64 0, .int .u64 0], .int .i64 2]) ?_ rfl ⟨rfl, ?_⟩
  · simp [results, Try.results24, go_sem, World.cell?_setCell_other, r0, r1, r2, r3]
  · exact h1.below.trans (putQ_below (by omega) zeroQ)
set_option maxHeartbeats 2000000 in
theorem read_short2 (B b : Nat) (s : ByteArray) (w : World) (h : Has w b s) (hB : B ≤ b) (hn : 16 ≤ s.size) (hm : s.size < 24) :
    Calls Try.prog 24 #[.pointer (some ⟨b, 0, none⟩)] w fun e w' => e = .returned (.tuple #[.agg #[.int .u64 0, .int .u64 0, .int .u64 0, .int .u64 0], .int .i64 2]) ∧ Below B w w' := by
  have hbr : b < w.heap.size := h.2.2
  have h0 := RS.start (B := B) h (by omega) 26
  clear h
  go_enter Try.func24, Try.ntmps24
  go_wp2_with fail
  generalize (w.alloc (.cells #[.int .u64 0, .int .u64 0, .int .u64 0, .int .u64 0] 26)).alloc (.cells #[.int .u64 0, .int .u64 0, .int .u64 0, .int .u64 0] 26) = W0 at h0
  generalize hbrx : w.heap.size = br at h0 hbr
  have HBR := Lib.hid hbrx
  clear hbrx
  have hbx : br < br + 1 := Nat.lt_succ_self _
  refine wp_loop_rounds 5 ?_
  rw [rounds_succ]
  go_wp2_with fail
  refine (mU64_at b s _ h0.has (by omega)).mono ?_
  rintro e W0a ⟨rfl, e0⟩
  have h0a := h0.took hB hbr hbx e0
  clear e0 h0
  generalize hn0 : numL (s.data.toList.take 8) = n0
  have HN0 := Lib.hid hn0
  clear hn0
  have k0 := h0a.x.c0
  have k1 := h0a.x.c1
  have k2 := h0a.x.c2
  have k3 := h0a.x.c3
  have f0 := h0a.x.f0
  have f1 := h0a.x.f1
  have f2 := h0a.x.f2
  have f3 := h0a.x.f3
  go_wp2_with fail
  clear k0 k1 k2 k3 f0 f1 f2 f3
  have h1 : RS w B b br (br + 1) (tailB s 8) ⟨n0, 0, 0, 0⟩ _ := h0a.put0 hB hbr hbx n0
  clear h0a
  generalize W0a.setCell ⟨br + 1, 0, none⟩ (.int .u64 n0) = W1 at h1
  rw [rounds_succ]
  go_wp2_with fail
  refine (mU64_at b (tailB s 8) _ h1.has (by rw [tailB_size]; omega)).mono ?_
  rw [tail_at, tailB_list]
  rintro e W1a ⟨rfl, e1⟩
  have h1a := h1.took hB hbr hbx e1
  clear e1 h1
  generalize hn1 : numL ((s.data.toList.drop 8).take 8) = n1
  have HN1 := Lib.hid hn1
  clear hn1
  have k0 := h1a.x.c0
  have k1 := h1a.x.c1
  have k2 := h1a.x.c2
  have k3 := h1a.x.c3
  have f0 := h1a.x.f0
  have f1 := h1a.x.f1
  have f2 := h1a.x.f2
  have f3 := h1a.x.f3
  go_wp2_with fail
  clear k0 k1 k2 k3 f0 f1 f2 f3
  have h2 : RS w B b br (br + 1) (tailB s 16) ⟨n0, n1, 0, 0⟩ _ := h1a.put1 hB hbr hbx n1
  clear h1a
  generalize W1a.setCell ⟨br + 1, 1, none⟩ (.int .u64 n1) = W2 at h2
  rw [rounds_succ]
  go_wp2_with fail
  refine (mU64_short b (tailB s 16) _ h2.has (by rw [tailB_size]; omega)).mono ?_
  rintro e W2a ⟨rfl, rfl⟩
  have r0 := h2.r.c0
  have r1 := h2.r.c1
  have r2 := h2.r.c2
  have r3 := h2.r.c3
  have g0 := h2.r.f0
  have g1 := h2.r.f1
  have g2 := h2.r.f2
  have g3 := h2.r.f3
  go_wp2
  refine bodyPost_ret (v := .tuple #[.agg #[.int .u64 0, .int .u64 0, .int .u64 0, .int .u64 0], .int .i64 2]) ?_ rfl ⟨rfl, ?_⟩
  · simp [results, Try.results24, go_sem, World.cell?_setCell_other, r0, r1, r2, r3]
  · exact h2.below.trans (putQ_below (by omega) zeroQ)
set_option maxHeartbeats 2000000 in
theorem read_short3 (B b : Nat) (s : ByteArray) (w : World) (h : Has w b s) (hB : B ≤ b) (hn : 24 ≤ s.size) (hm : s.size < 32) :
    Calls Try.prog 24 #[.pointer (some ⟨b, 0, none⟩)] w fun e w' => e = .returned (.tuple #[.agg #[.int .u64 0, .int .u64 0, .int .u64 0, .int .u64 0], .int .i64 2]) ∧ Below B w w' := by
  have hbr : b < w.heap.size := h.2.2
  have h0 := RS.start (B := B) h (by omega) 26
  clear h
  go_enter Try.func24, Try.ntmps24
  go_wp2_with fail
  generalize (w.alloc (.cells #[.int .u64 0, .int .u64 0, .int .u64 0, .int .u64 0] 26)).alloc (.cells #[.int .u64 0, .int .u64 0, .int .u64 0, .int .u64 0] 26) = W0 at h0
  generalize hbrx : w.heap.size = br at h0 hbr
  have HBR := Lib.hid hbrx
  clear hbrx
  have hbx : br < br + 1 := Nat.lt_succ_self _
  refine wp_loop_rounds 5 ?_
  rw [rounds_succ]
  go_wp2_with fail
  refine (mU64_at b s _ h0.has (by omega)).mono ?_
  rintro e W0a ⟨rfl, e0⟩
  have h0a := h0.took hB hbr hbx e0
  clear e0 h0
  generalize hn0 : numL (s.data.toList.take 8) = n0
  have HN0 := Lib.hid hn0
  clear hn0
  have k0 := h0a.x.c0
  have k1 := h0a.x.c1
  have k2 := h0a.x.c2
  have k3 := h0a.x.c3
  have f0 := h0a.x.f0
  have f1 := h0a.x.f1
  have f2 := h0a.x.f2
  have f3 := h0a.x.f3
  go_wp2_with fail
  clear k0 k1 k2 k3 f0 f1 f2 f3
  have h1 : RS w B b br (br + 1) (tailB s 8) ⟨n0, 0, 0, 0⟩ _ := h0a.put0 hB hbr hbx n0
  clear h0a
  generalize W0a.setCell ⟨br + 1, 0, none⟩ (.int .u64 n0) = W1 at h1
  rw [rounds_succ]
  go_wp2_with fail
  refine (mU64_at b (tailB s 8) _ h1.has (by rw [tailB_size]; omega)).mono ?_
  rw [tail_at, tailB_list]
  rintro e W1a ⟨rfl, e1⟩
  have h1a := h1.took hB hbr hbx e1
  clear e1 h1
  generalize hn1 : numL ((s.data.toList.drop 8).take 8) = n1
  have HN1 := Lib.hid hn1
  clear hn1
  have k0 := h1a.x.c0
  have k1 := h1a.x.c1
  have k2 := h1a.x.c2
  have k3 := h1a.x.c3
  have f0 := h1a.x.f0
  have f1 := h1a.x.f1
  have f2 := h1a.x.f2
  have f3 := h1a.x.f3
  go_wp2_with fail
  clear k0 k1 k2 k3 f0 f1 f2 f3
  have h2 : RS w B b br (br + 1) (tailB s 16) ⟨n0, n1, 0, 0⟩ _ := h1a.put1 hB hbr hbx n1
  clear h1a
  generalize W1a.setCell ⟨br + 1, 1, none⟩ (.int .u64 n1) = W2 at h2
  rw [rounds_succ]
  go_wp2_with fail
  refine (mU64_at b (tailB s 16) _ h2.has (by rw [tailB_size]; omega)).mono ?_
  rw [tail_at, tailB_list]
  rintro e W2a ⟨rfl, e2⟩
  have h2a := h2.took hB hbr hbx e2
  clear e2 h2
  generalize hn2 : numL ((s.data.toList.drop 16).take 8) = n2
  have HN2 := Lib.hid hn2
  clear hn2
  have k0 := h2a.x.c0
  have k1 := h2a.x.c1
  have k2 := h2a.x.c2
  have k3 := h2a.x.c3
  have f0 := h2a.x.f0
  have f1 := h2a.x.f1
  have f2 := h2a.x.f2
  have f3 := h2a.x.f3
  go_wp2_with fail
  clear k0 k1 k2 k3 f0 f1 f2 f3
  have h3 : RS w B b br (br + 1) (tailB s 24) ⟨n0, n1, n2, 0⟩ _ := h2a.put2 hB hbr hbx n2
  clear h2a
  generalize W2a.setCell ⟨br + 1, 2, none⟩ (.int .u64 n2) = W3 at h3
  rw [rounds_succ]
  go_wp2_with fail
  refine (mU64_short b (tailB s 24) _ h3.has (by rw [tailB_size]; omega)).mono ?_
  rintro e W3a ⟨rfl, rfl⟩
  have r0 := h3.r.c0
  have r1 := h3.r.c1
  have r2 := h3.r.c2
  have r3 := h3.r.c3
  have g0 := h3.r.f0
  have g1 := h3.r.f1
  have g2 := h3.r.f2
  have g3 := h3.r.f3
  go_wp2
  refine bodyPost_ret (v := .tuple #[.agg #[.int .u64 0, .int .u64 0, .int .u64 0, .int .u64 0], .int .i64 2]) ?_ rfl ⟨rfl, ?_⟩
  · simp [results, Try.results24, go_sem, World.cell?_setCell_other, r0, r1, r2, r3]
  · exact h3.below.trans (putQ_below (by omega) zeroQ)
theorem read_short (B b : Nat) (s : ByteArray) (w : World) (h : Has w b s) (hB : B ≤ b) (hm : s.size < 32) :
    Calls Try.prog 24 #[.pointer (some ⟨b, 0, none⟩)] w fun e w' => e = .returned (.tuple #[.agg #[.int .u64 0, .int .u64 0, .int .u64 0, .int .u64 0], .int .i64 2]) ∧ Below B w w' := by
  by_cases h1 : s.size < 8
  · exact read_short0 B b s w h hB (by omega) h1
  by_cases h2 : s.size < 16
  · exact read_short1 B b s w h hB (by omega) h2
  by_cases h3 : s.size < 24
  · exact read_short2 B b s w h hB (by omega) h3
  · exact read_short3 B b s w h hB (by omega) hm
end Go.Proofs.Ythpifplflhhkiaa
