/-
  Reading a small number and a sum, with what is kept of all other blocks ('Only').
-/
import Derived.Test.YthpifplflhhkiaaFread
namespace Go.Proofs.Ythpifplflhhkiaa
set_option maxRecDepth 100000
open Go.RowKit Go.Shelf M
attribute [local go_sem] Oper.semAt_some

/-- Of the first N blocks all but b are as they were. -/
structure Only (b N : Nat) (w w' : World) : Prop where
  os : w'.os = w.os
  tape : w'.tape = w.tape
  output : w'.output = w.output
  size : w.heap.size ≤ w'.heap.size
  block : ∀ k, k < N → k ≠ b → w'.heap[k]? = w.heap[k]?
theorem Only.refl (b N : Nat) (w : World) : Only b N w w := ⟨rfl, rfl, rfl, Nat.le_refl _, fun _ _ _ => rfl⟩
theorem Only.trans {b N : Nat} {u v w : World} (h : Only b N u v) (k : Only b N v w) : Only b N u w :=
  ⟨k.os.trans h.os, k.tape.trans h.tape, k.output.trans h.output, Nat.le_trans h.size k.size, fun i hi hb => (k.block i hi hb).trans (h.block i hi hb)⟩
theorem Below.only {N : Nat} {w w' : World} (h : Below N w w') (b : Nat) : Only b N w w' := ⟨h.os, h.tape, h.output, h.size, fun k hk _ => h.block k hk⟩
theorem Only.below {b N B : Nat} {w w' : World} (h : Only b N w w') (hB : B ≤ b) (hN : B ≤ N) : Below B w w' := ⟨h.os, h.tape, h.output, h.size, fun k hk => h.block k (by omega) (by omega)⟩
theorem Only.setB {b N : Nat} {u w : World} (h : Only b N u w) (t : ByteArray) : Only b N u (setB w b t) :=
  h.trans ⟨rfl, rfl, rfl, by simp [Go.Proofs.Ythpifplflhhkiaa.setB, World.setCell], fun _ _ hb => Below.heap_setCell _ _ _ _ hb⟩
theorem Only.setCell {b N : Nat} {u w : World} (h : Only b N u w) {p : Addr} (hp : N ≤ p.block) (x : Value) : Only b N u (w.setCell p x) :=
  h.trans ⟨rfl, rfl, rfl, by simp [World.setCell], fun _ hk _ => Below.heap_setCell _ _ _ _ (by omega)⟩
theorem Only.putQ {b N d : Nat} {u w : World} (h : Only b N u w) (hp : N ≤ d) (q : Q) : Only b N u (putQ w d q) :=
  (((h.setCell (p := ⟨d, 0, none⟩) hp _).setCell (p := ⟨d, 1, none⟩) hp _).setCell (p := ⟨d, 2, none⟩) hp _).setCell (p := ⟨d, 3, none⟩) hp _
theorem Only.cell {b N : Nat} {w w' : World} (h : Only b N w w') {p : Addr} (hp : p.block < N) (hb : p.block ≠ b) : w'.cell? p = w.cell? p := World.cell?_of_block (w := w) (h.block p.block hp hb)
theorem Only.frozen {b N : Nat} {w w' : World} (h : Only b N w w') {p : Addr} (hp : p.block < N) (hb : p.block ≠ b) : w'.frozen? p = w.frozen? p := World.frozen?_of_block (w := w) (h.block p.block hp hb)

theorem mU32_at (b : Nat) (s : ByteArray) (w : World) (h : Has w b s) (hn : 4 ≤ s.size) :
    Calls Try.prog 23 #[.pointer (some ⟨b, 0, none⟩)] w fun e w' => e = .returned (.tuple #[.int .i64 (numL (s.data.toList.take 4) : Nat), .int .i64 0]) ∧ setB w b (tailB s 4) = w' := by
  have hl : numL (s.data.toList.take 4) < 4294967296 := by
    have h1 := numL_lt (s.data.toList.take 4)
    have h2 : (s.data.toList.take 4).length = 4 := by rw [List.length_take, ← size_list]; omega
    rw [h2] at h1
    exact h1
  go_enter Try.func23, Try.ntmps23
  go_wp2_with fail
  refine (take_at b s 4 _ h hn).mono ?_
  rintro e w1 ⟨rfl, h1⟩
  have H1 := Lib.hid h1
  clear h1
  go_wp2_with fail
  refine (number_any (headB s 4) _ (by rw [headB_size s 4 hn]; omega)).mono ?_
  rw [headB_list]
  rintro e w2 ⟨rfl, rfl⟩
  generalize hx : numL (s.data.toList.take 4) = x at hl
  have HX := Lib.hid hx
  clear hx
  go_wp2
  go_ret2
  exact ⟨by rw [HX.out]; rfl, H1.out⟩

structure RO (w0 : World) (b br bx : Nat) (s : ByteArray) (q : Q) (w : World) : Prop where
  has : Has w b s
  x : HoldsQ w bx q
  r : HoldsQ w br zeroQ
  below : Only b w0.heap.size w0 w
  br : w0.heap.size = br
theorem RO.took {w0 w w' : World} {b br bx : Nat} {s : ByteArray} {q : Q} (h : RO w0 b br bx s q w) (h1 : b < br) (h2 : br < bx) {t : ByteArray} (e : setB w b t = w') : RO w0 b br bx t q w' := by
  subst e
  exact ⟨h.has.set t, h.x.setB (by omega) t, h.r.setB (by omega) t, h.below.setB t, h.br⟩
theorem RO.put0 {w0 w : World} {b br bx : Nat} {s : ByteArray} {q : Q} (h : RO w0 b br bx s q w) (h1 : b < br) (h2 : br < bx) (n : Nat) : RO w0 b br bx s ⟨n, q.b, q.c, q.d⟩ (w.setCell ⟨bx, 0, none⟩ (.int .u64 n)) :=
  ⟨h.has.setFar (by omega) _, h.x.set0 n, h.r.setFar (by omega) _, h.below.setCell (p := ⟨bx, 0, none⟩) (by rw [h.br]; show br ≤ bx; omega) _, h.br⟩
theorem RO.put1 {w0 w : World} {b br bx : Nat} {s : ByteArray} {q : Q} (h : RO w0 b br bx s q w) (h1 : b < br) (h2 : br < bx) (n : Nat) : RO w0 b br bx s ⟨q.a, n, q.c, q.d⟩ (w.setCell ⟨bx, 1, none⟩ (.int .u64 n)) :=
  ⟨h.has.setFar (by omega) _, h.x.set1 n, h.r.setFar (by omega) _, h.below.setCell (p := ⟨bx, 1, none⟩) (by rw [h.br]; show br ≤ bx; omega) _, h.br⟩
theorem RO.put2 {w0 w : World} {b br bx : Nat} {s : ByteArray} {q : Q} (h : RO w0 b br bx s q w) (h1 : b < br) (h2 : br < bx) (n : Nat) : RO w0 b br bx s ⟨q.a, q.b, n, q.d⟩ (w.setCell ⟨bx, 2, none⟩ (.int .u64 n)) :=
  ⟨h.has.setFar (by omega) _, h.x.set2 n, h.r.setFar (by omega) _, h.below.setCell (p := ⟨bx, 2, none⟩) (by rw [h.br]; show br ≤ bx; omega) _, h.br⟩
theorem RO.put3 {w0 w : World} {b br bx : Nat} {s : ByteArray} {q : Q} (h : RO w0 b br bx s q w) (h1 : b < br) (h2 : br < bx) (n : Nat) : RO w0 b br bx s ⟨q.a, q.b, q.c, n⟩ (w.setCell ⟨bx, 3, none⟩ (.int .u64 n)) :=
  ⟨h.has.setFar (by omega) _, h.x.set3 n, h.r.setFar (by omega) _, h.below.setCell (p := ⟨bx, 3, none⟩) (by rw [h.br]; show br ≤ bx; omega) _, h.br⟩
theorem RO.start {w : World} {b : Nat} {s : ByteArray} (h : Has w b s) (t : TypeId) :
    RO w b w.heap.size (w.heap.size + 1) s zeroQ ((w.alloc (.cells #[.int .u64 0, .int .u64 0, .int .u64 0, .int .u64 0] t)).alloc (.cells #[.int .u64 0, .int .u64 0, .int .u64 0, .int .u64 0] t)) := by
  have hb : Below w.heap.size w ((w.alloc (.cells #[.int .u64 0, .int .u64 0, .int .u64 0, .int .u64 0] t)).alloc (.cells #[.int .u64 0, .int .u64 0, .int .u64 0, .int .u64 0] t)) := ((Below.refl _ w).alloc (Nat.le_refl _) _).alloc (by simp) _
  have h2 := HoldsQ.new (w.alloc (.cells #[.int .u64 0, .int .u64 0, .int .u64 0, .int .u64 0] t)) zeroQ t
  rw [World.size_alloc] at h2
  exact ⟨h.below hb h.2.2, h2, (HoldsQ.new w zeroQ t).below (B := w.heap.size + 1) ((Below.refl _ _).alloc (by simp) _) (by omega), Below.only hb b, rfl⟩
set_option maxHeartbeats 2000000 in
theorem read_only (b : Nat) (s : ByteArray) (w : World) (h : Has w b s) (hn : 32 ≤ s.size) :
    Calls Try.prog 24 #[.pointer (some ⟨b, 0, none⟩)] w fun e w' => e = .returned (.tuple #[.agg #[.int .u64 (readQ s).a, .int .u64 (readQ s).b, .int .u64 (readQ s).c, .int .u64 (readQ s).d], .int .i64 0]) ∧ Has w' b (tailB s 32) ∧ Only b w.heap.size w w' := by
  have hbr : b < w.heap.size := h.2.2
  have h0 := RO.start h 26
  clear h
  go_enter Try.func24, Try.ntmps24
  go_wp2_with fail
  generalize (w.alloc (.cells #[.int .u64 0, .int .u64 0, .int .u64 0, .int .u64 0] 26)).alloc (.cells #[.int .u64 0, .int .u64 0, .int .u64 0, .int .u64 0] 26) = W0 at h0
  generalize hbrx : w.heap.size = br at h0 hbr
  have HBR := Lib.hid hbrx
  clear hbrx
  have hbx : br < br + 1 := Nat.lt_succ_self _
  refine wp_loop_rounds 5 ?_
  rw [rounds_succ]
  go_wp2_with fail
  refine (mU64_at b s _ h0.has (by omega)).mono ?_
  rintro e W0a ⟨rfl, e0⟩
  have h0a := h0.took hbr hbx e0
  clear e0 h0
  generalize hn0 : numL (s.data.toList.take 8) = n0
  have HN0 := Lib.hid hn0
  clear hn0
  have k0 := h0a.x.c0
  have k1 := h0a.x.c1
  have k2 := h0a.x.c2
  have k3 := h0a.x.c3
  have f0 := h0a.x.f0
  have f1 := h0a.x.f1
  have f2 := h0a.x.f2
  have f3 := h0a.x.f3
  go_wp2_with fail
  clear k0 k1 k2 k3 f0 f1 f2 f3
  have h1 : RO w b br (br + 1) (tailB s 8) ⟨n0, 0, 0, 0⟩ _ := h0a.put0 hbr hbx n0
  clear h0a
  generalize W0a.setCell ⟨br + 1, 0, none⟩ (.int .u64 n0) = W1 at h1
  rw [rounds_succ]
  go_wp2_with fail
  refine (mU64_at b (tailB s 8) _ h1.has (by rw [tailB_size]; omega)).mono ?_
  rw [tail_at, tailB_list]
  rintro e W1a ⟨rfl, e1⟩
  have h1a := h1.took hbr hbx e1
  clear e1 h1
  generalize hn1 : numL ((s.data.toList.drop 8).take 8) = n1
  have HN1 := Lib.hid hn1
  clear hn1
  have k0 := h1a.x.c0
  have k1 := h1a.x.c1
  have k2 := h1a.x.c2
  have k3 := h1a.x.c3
  have f0 := h1a.x.f0
  have f1 := h1a.x.f1
  have f2 := h1a.x.f2
  have f3 := h1a.x.f3
  go_wp2_with fail
  clear k0 k1 k2 k3 f0 f1 f2 f3
  have h2 : RO w b br (br + 1) (tailB s 16) ⟨n0, n1, 0, 0⟩ _ := h1a.put1 hbr hbx n1
  clear h1a
  generalize W1a.setCell ⟨br + 1, 1, none⟩ (.int .u64 n1) = W2 at h2
  rw [rounds_succ]
  go_wp2_with fail
  refine (mU64_at b (tailB s 16) _ h2.has (by rw [tailB_size]; omega)).mono ?_
  rw [tail_at, tailB_list]
  rintro e W2a ⟨rfl, e2⟩
  have h2a := h2.took hbr hbx e2
  clear e2 h2
  generalize hn2 : numL ((s.data.toList.drop 16).take 8) = n2
  have HN2 := Lib.hid hn2
  clear hn2
  have k0 := h2a.x.c0
  have k1 := h2a.x.c1
  have k2 := h2a.x.c2
  have k3 := h2a.x.c3
  have f0 := h2a.x.f0
  have f1 := h2a.x.f1
  have f2 := h2a.x.f2
  have f3 := h2a.x.f3
  go_wp2_with fail
  clear k0 k1 k2 k3 f0 f1 f2 f3
  have h3 : RO w b br (br + 1) (tailB s 24) ⟨n0, n1, n2, 0⟩ _ := h2a.put2 hbr hbx n2
  clear h2a
  generalize W2a.setCell ⟨br + 1, 2, none⟩ (.int .u64 n2) = W3 at h3
  rw [rounds_succ]
  go_wp2_with fail
  refine (mU64_at b (tailB s 24) _ h3.has (by rw [tailB_size]; omega)).mono ?_
  rw [tail_at, tailB_list]
  rintro e W3a ⟨rfl, e3⟩
  have h3a := h3.took hbr hbx e3
  clear e3 h3
  generalize hn3 : numL ((s.data.toList.drop 24).take 8) = n3
  have HN3 := Lib.hid hn3
  clear hn3
  have k0 := h3a.x.c0
  have k1 := h3a.x.c1
  have k2 := h3a.x.c2
  have k3 := h3a.x.c3
  have f0 := h3a.x.f0
  have f1 := h3a.x.f1
  have f2 := h3a.x.f2
  have f3 := h3a.x.f3
  go_wp2_with fail
  clear k0 k1 k2 k3 f0 f1 f2 f3
  have h4 : RO w b br (br + 1) (tailB s 32) ⟨n0, n1, n2, n3⟩ _ := h3a.put3 hbr hbx n3
  clear h3a
  generalize W3a.setCell ⟨br + 1, 3, none⟩ (.int .u64 n3) = W4 at h4
  rw [rounds_succ]
  have k0 := h4.x.c0
  have k1 := h4.x.c1
  have k2 := h4.x.c2
  have k3 := h4.x.c3
  have f0 := h4.x.f0
  have f1 := h4.x.f1
  have f2 := h4.x.f2
  have f3 := h4.x.f3
  have r0 := h4.r.c0
  have r1 := h4.r.c1
  have r2 := h4.r.c2
  have r3 := h4.r.c3
  have g0 := h4.r.f0
  have g1 := h4.r.f1
  have g2 := h4.r.f2
  have g3 := h4.r.f3
  go_wp2
  have hp := h4.r.put ⟨n0, n1, n2, n3⟩
  refine bodyPost_ret (v := .tuple #[.agg #[.int .u64 n0, .int .u64 n1, .int .u64 n2, .int .u64 n3], .int .i64 0]) ?_ rfl ⟨?_, ?_, ?_⟩
  · have p0 := hp.c0
    have p1 := hp.c1
    have p2 := hp.c2
    have p3 := hp.c3
    unfold putQ at p0 p1 p2 p3
    simp [results, Try.results24, go_sem, p0, p1, p2, p3]
  · rw [← HN0.out, ← HN1.out, ← HN2.out, ← HN3.out]; rfl
  · exact h4.has.below (B := b + 1) (putQ_below (b := br) (by omega) ⟨n0, n1, n2, n3⟩) (by omega)
  · exact h4.below.putQ (by rw [HBR.out]; omega) ⟨n0, n1, n2, n3⟩
end Go.Proofs.Ythpifplflhhkiaa
