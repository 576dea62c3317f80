/-
  heal.Look.
-/
import Derived.Test.YtiffkbmcikiioaaGreatY41
import Derived.Test.YtiffkbmcikiioaaGreatY42
import Derived.Test.YtiffkbmcikiioaaGreatY34
import Derived.Test.YtiffkbmcikiioaaGreatY38

/- heal.Look. -/
namespace Go.Proofs.YtiffkbmcikiioaaGreat
set_option maxRecDepth 100000
open Go.RowKit Go.Shelf Go.Maps M
attribute [local go_sem] Oper.semAt_some

/-- The boxes of Look. -/
structure LK (x : Px) (p : Ptr) (b : Nat) (w : World) : Prop where
  x : BoxX x b w
  p : Box w (b + 1) p
  c0 : w.cell? ⟨b + 2, 0, none⟩ = some (.string ⟨#[]⟩)
  c1 : w.cell? ⟨b + 2, 1, none⟩ = some (.int .i64 0)
  c2 : w.cell? ⟨b + 2, 2, none⟩ = some (.int .i64 0)
  c3 : w.cell? ⟨b + 2, 3, none⟩ = some (.int .i64 0)
  e0 : w.cell? ⟨b + 3, 0, none⟩ = some (.int .i64 0)
  f0 : w.frozen? ⟨b + 2, 0, none⟩ = false
  f1 : w.frozen? ⟨b + 2, 1, none⟩ = false
  f2 : w.frozen? ⟨b + 2, 2, none⟩ = false
  f3 : w.frozen? ⟨b + 2, 3, none⟩ = false
  g0 : w.frozen? ⟨b + 3, 0, none⟩ = false
  lt : b + 3 < w.heap.size
theorem LK.next {x : Px} {p : Ptr} {b : Nat} {w w' : World} (h : LK x p b w) (hb : Below w.heap.size w w') : LK x p b w' := by
  obtain ⟨⟨x0, x1, x2, x3⟩, hp, c0, c1, c2, c3, e0, f0, f1, f2, f3, g0, lt⟩ := h
  have k : ∀ o i, o < 4 → w'.cell? ⟨b + o, i, none⟩ = w.cell? ⟨b + o, i, none⟩ := fun o i ho => hb.cell (p := ⟨b + o, i, none⟩) (by show b + o < _; omega)
  have k0 : ∀ i, w'.cell? ⟨b, i, none⟩ = w.cell? ⟨b, i, none⟩ := fun i => k 0 i (by omega)
  have m : ∀ o i, o < 4 → w'.frozen? ⟨b + o, i, none⟩ = w.frozen? ⟨b + o, i, none⟩ := fun o i ho => hb.frozen (p := ⟨b + o, i, none⟩) (by show b + o < _; omega)
  exact ⟨⟨(k0 _).trans x0, (k0 _).trans x1, (k0 _).trans x2, (k0 _).trans x3⟩, hp.next hb, (k 2 _ (by omega)).trans c0, (k 2 _ (by omega)).trans c1, (k 2 _ (by omega)).trans c2, (k 2 _ (by omega)).trans c3, (k 3 _ (by omega)).trans e0, (m 2 _ (by omega)).trans f0, (m 2 _ (by omega)).trans f1, (m 2 _ (by omega)).trans f2, (m 2 _ (by omega)).trans f3, (m 3 _ (by omega)).trans g0, Nat.lt_of_lt_of_le lt hb.size⟩
theorem BoxX.keep {x : Px} {b : Nat} {w w' : World} (h : BoxX x b w) (hb : Below w.heap.size w w') (hl : b < w.heap.size) : BoxX x b w' := by
  have k : ∀ i, w'.cell? ⟨b, i, none⟩ = w.cell? ⟨b, i, none⟩ := fun i => hb.cell (p := ⟨b, i, none⟩) hl
  exact ⟨(k _).trans h.c0, (k _).trans h.c1, (k _).trans h.c2, (k _).trans h.c3⟩
theorem LK.start (x : Px) (p : Ptr) (w : World) : LK x p w.heap.size ((((w.alloc (.cells #[.slice x.ga x.gn x.gc, .int .i64 x.sc, .slice (some ⟨x.lb, 0, none⟩) x.n x.n, .slice (some ⟨x.ab, 0, none⟩) x.n x.n] 37)).alloc (.cells p.cells 31)).alloc (.cells #[.string ⟨#[]⟩, .int .i64 0, .int .i64 0, .int .i64 0] 45)).alloc (.cells #[.int .i64 0] 46)) ∧
    Below w.heap.size w ((((w.alloc (.cells #[.slice x.ga x.gn x.gc, .int .i64 x.sc, .slice (some ⟨x.lb, 0, none⟩) x.n x.n, .slice (some ⟨x.ab, 0, none⟩) x.n x.n] 37)).alloc (.cells p.cells 31)).alloc (.cells #[.string ⟨#[]⟩, .int .i64 0, .int .i64 0, .int .i64 0] 45)).alloc (.cells #[.int .i64 0] 46)) := by
  have b1 := boxed w (.cells #[.slice x.ga x.gn x.gc, .int .i64 x.sc, .slice (some ⟨x.lb, 0, none⟩) x.n x.n, .slice (some ⟨x.ab, 0, none⟩) x.n x.n] 37)
  have h1 := (BoxX.new w x w.heap.size (Nat.le_refl _) 37).out
  have s1 : (w.alloc (.cells #[.slice x.ga x.gn x.gc, .int .i64 x.sc, .slice (some ⟨x.lb, 0, none⟩) x.n x.n, .slice (some ⟨x.ab, 0, none⟩) x.n x.n] 37)).heap.size = w.heap.size + 1 := World.size_alloc _ _
  obtain ⟨w1, hw1⟩ : ∃ w1, w.alloc (.cells #[.slice x.ga x.gn x.gc, .int .i64 x.sc, .slice (some ⟨x.lb, 0, none⟩) x.n x.n, .slice (some ⟨x.ab, 0, none⟩) x.n x.n] 37) = w1 := ⟨_, rfl⟩
  rw [hw1] at b1 h1 s1 ⊢
  have b2 := boxed w1 (.cells p.cells 31)
  have h2 := Box.new w1 p
  have s2 : (w1.alloc (.cells p.cells 31)).heap.size = w.heap.size + 2 := by rw [World.size_alloc, s1]
  obtain ⟨w2, hw2⟩ : ∃ w2, w1.alloc (.cells p.cells 31) = w2 := ⟨_, rfl⟩
  rw [hw2] at b2 h2 s2 ⊢
  rw [s1] at h2
  have b3 := boxed w2 (.cells #[.string ⟨#[]⟩, .int .i64 0, .int .i64 0, .int .i64 0] 45)
  have b4 := boxed (w2.alloc (.cells #[.string ⟨#[]⟩, .int .i64 0, .int .i64 0, .int .i64 0] 45)) (.cells #[.int .i64 0] 46)
  have b34 := Proofs.YtiffkbmcikiioaaGreat.next b3 b4
  have hx := (h1.keep b2 (by omega)).keep b34 (by omega)
  refine ⟨⟨hx, h2.next b34, ?_, ?_, ?_, ?_, ?_, ?_, ?_, ?_, ?_, ?_, ?_⟩, Proofs.YtiffkbmcikiioaaGreat.next (Proofs.YtiffkbmcikiioaaGreat.next b1 b2) b34⟩
  · rw [← s2]; simp
  · rw [← s2]; simp
  · rw [← s2]; simp
  · rw [← s2]; simp
  · rw [show w.heap.size + 3 = (w2.alloc (.cells #[.string ⟨#[]⟩, .int .i64 0, .int .i64 0, .int .i64 0] 45)).heap.size by simp [s2]]; simp
  · rw [← s2]; simp
  · rw [← s2]; simp
  · rw [← s2]; simp
  · rw [← s2]; simp
  · rw [show w.heap.size + 3 = (w2.alloc (.cells #[.string ⟨#[]⟩, .int .i64 0, .int .i64 0, .int .i64 0] 45)).heap.size by simp [s2]]; simp
  · simp [s2]
def errL (b : Bool) : Int := if b then 6 else 4
/-- What Look leaves in its results where it has found a block. -/
structure LX (b j : Nat) (y : Int × ByteArray) (w : World) : Prop where
  c0 : w.cell? ⟨b + 2, 0, none⟩ = some (.string y.2)
  c1 : w.cell? ⟨b + 2, 1, none⟩ = some (.int .i64 (j : Int))
  c2 : w.cell? ⟨b + 2, 2, none⟩ = some (.int .i64 y.1)
  c3 : w.cell? ⟨b + 2, 3, none⟩ = some (.int .i64 0)
  e0 : w.cell? ⟨b + 3, 0, none⟩ = some (.int .i64 0)
theorem LX.next {b j : Nat} {y : Int × ByteArray} {w w' : World} {B : Nat} (h : LX b j y w) (hb : Below B w w') (hB : b + 3 < B) : LX b j y w' := by
  have k : ∀ o i, o < 4 → w'.cell? ⟨b + o, i, none⟩ = w.cell? ⟨b + o, i, none⟩ := fun o i ho => hb.cell (p := ⟨b + o, i, none⟩) (by show b + o < _; omega)
  exact ⟨(k 2 _ (by omega)).trans h.c0, (k 2 _ (by omega)).trans h.c1, (k 2 _ (by omega)).trans h.c2, (k 2 _ (by omega)).trans h.c3, (k 3 _ (by omega)).trans h.e0⟩
/-- Boxes of a round. -/
structure LR (b j : Nat) (k t : Int) (w : World) : Prop where
  c0 : w.cell? ⟨b, 0, none⟩ = some (.int .i64 (j : Int))
  k0 : w.cell? ⟨b + 1, 0, none⟩ = some (.int .i64 k)
  k1 : w.cell? ⟨b + 1, 1, none⟩ = some (.int .i64 t)
  lt : b + 1 < w.heap.size
theorem LR.next {b j : Nat} {k t : Int} {w w' : World} (h : LR b j k t w) (hb : Below w.heap.size w w') : LR b j k t w' :=
  ⟨(hb.cell (p := ⟨b, 0, none⟩) (by show b < _; have := h.lt; omega)).trans h.c0, (hb.cell (p := ⟨b + 1, 0, none⟩) h.lt).trans h.k0, (hb.cell (p := ⟨b + 1, 1, none⟩) h.lt).trans h.k1, Nat.lt_of_lt_of_le h.lt hb.size⟩
theorem LR.start (w : World) (j : Nat) (k t : Int) : LR w.heap.size j k t ((w.alloc (.cells #[.int .i64 (j : Int)] 3)).alloc (.cells #[.int .i64 k, .int .i64 t] 26)) := by
  have b2 := boxed (w.alloc (.cells #[.int .i64 (j : Int)] 3)) (.cells #[.int .i64 k, .int .i64 t] 26)
  refine ⟨?_, ?_, ?_, by simp⟩
  · rw [b2.cell (p := ⟨w.heap.size, 0, none⟩) (by simp)]; simp
  · rw [show w.heap.size + 1 = (w.alloc (.cells #[.int .i64 (j : Int)] 3)).heap.size by simp]; simp
  · rw [show w.heap.size + 1 = (w.alloc (.cells #[.int .i64 (j : Int)] 3)).heap.size by simp]; simp

/-- The places' calls, in any world. -/
structure LC (w : World) (x : Px) (l : List (Int × Int)) (p : Ptr) (z : Nat) (R : Nat → List ByteArray) : Prop where
  raw : ∀ j, j < nP p → ∀ W, Below w.heap.size w W → Calls Tryz.prog 36 #[x.val, .agg #[.int .i64 (atP p j).1, .int .i64 (atP p j).2], .int .i64 p.sz] W fun e w' => ∃ v, e = .returned v ∧ Own w' W.heap.size v (R j) ∧ Below W.heap.size W w'
  tries : ∀ j, j < nP p → ∀ W v, Below w.heap.size w W → Txt W v (R j) → Calls Tryz.prog 37 #[x.g, .agg #[.int .i64 (atP p j).1, .int .i64 (atP p j).2], .int .i64 p.sz, v] W fun e w' => ∃ v', e = .returned v' ∧ SeqT W.heap.size w' v' (TT l x.sc p z R j) ∧ Below W.heap.size W w'
  sz : ∀ j, j < nP p → ∀ y ∈ TT l x.sc p z R j, y.2.size = z * 64
  len : ∀ j, j < nP p → (R j).length ≤ 100000
theorem zeros_sz (z : Nat) : (⟨(List.replicate (z * 64) (0 : UInt8)).toArray⟩ : ByteArray).size = z * 64 := by simp [ByteArray.size]
theorem StX.calls {X : Nat → Prop} {B : Nat} {w : World} {x : Px} {l : List (Int × Int)} {ds : Nat → Dv} {aw : Nat → Bool} {K : Nat} {P : World → Prop} (h : StX X B w x l ds aw K P) {p : Ptr} {z : Nat} (hp : PR l x.sc p z) : LC w x l p z (RW ds aw l p z) := by
  have hz := (hp.blk 0 (nP_pos p)).2.z4
  refine ⟨fun j hj W hW => ?_, fun j hj W v hW hv => ?_, fun j hj y hy => ?_, fun j hj => ?_⟩
  · obtain ⟨e, hb⟩ := hp.blk j hj
    rw [e, hp.sz]
    exact hraw_ok (h.below hW) _ _ _ hb
  · obtain ⟨e, hb⟩ := hp.blk j hj
    have hbd := hb.bounds
    rw [e, hp.sz]
    refine tries_any l x.sc x.g W (h.below hW).meas _ _ _ ⟨by omega, by omega⟩ ⟨by omega, by omega⟩ ⟨by omega, by omega⟩ _ v hv ?_
    have := hb.laid.few
    show (rawL ds aw (LL l p z j)).length ≤ _
    rw [rawL_len]
    unfold LL
    omega
  · obtain ⟨_, hb⟩ := hp.blk j hj
    obtain ⟨kk, u, hE⟩ := hb.enc7 (zeros_sz z)
    exact hE.trySz (rawL_len _ _ _) (h.rawF hb).secs y hy
  · obtain ⟨_, hb⟩ := hp.blk j hj
    have := hb.laid.few
    show (rawL ds aw (LL l p z j)).length ≤ _
    rw [rawL_len]
    unfold LL
    omega
/-- The results' cells are written. -/
def putY (w : World) (b : Nat) (t : ByteArray) (j d er : Int) : World := ((((w.setCell ⟨b + 2, 0, none⟩ (.string t)).setCell ⟨b + 2, 1, none⟩ (.int .i64 j)).setCell ⟨b + 2, 2, none⟩ (.int .i64 d)).setCell ⟨b + 2, 3, none⟩ (.int .i64 0)).setCell ⟨b + 3, 0, none⟩ (.int .i64 er)
abbrev putX (w : World) (b : Nat) (t : ByteArray) (j : Nat) (d : Int) : World := putY w b t (j : Int) d 0
theorem putY_ok {x : Px} {p : Ptr} {b : Nat} {w : World} (h : LK x p b w) (t : ByteArray) (j d er : Int) : (putY w b t j d er).cell? ⟨b + 2, 0, none⟩ = some (.string t) ∧ (putY w b t j d er).cell? ⟨b + 2, 1, none⟩ = some (.int .i64 j) ∧ (putY w b t j d er).cell? ⟨b + 2, 2, none⟩ = some (.int .i64 d) ∧ (putY w b t j d er).cell? ⟨b + 2, 3, none⟩ = some (.int .i64 0) ∧ (putY w b t j d er).cell? ⟨b + 3, 0, none⟩ = some (.int .i64 er) := by
  obtain ⟨_, _, c0, c1, c2, c3, e0, _, _, _, _, _, _⟩ := h
  unfold putY
  exact ⟨by simp [World.cell?_setCell_other, World.cell?_setCell_same', c0], by simp [World.cell?_setCell_other, World.cell?_setCell_same', c1], by simp [World.cell?_setCell_other, World.cell?_setCell_same', c2], by simp [World.cell?_setCell_other, World.cell?_setCell_same', c3], by simp [World.cell?_setCell_other, World.cell?_setCell_same', e0]⟩
theorem putX_ok {x : Px} {p : Ptr} {b : Nat} {w : World} (h : LK x p b w) (t : ByteArray) (j : Nat) (d : Int) : LX b j (d, t) (putX w b t j d) := by
  obtain ⟨c0, c1, c2, c3, e0⟩ := putY_ok h t (j : Int) d 0
  exact ⟨c0, c1, c2, c3, e0⟩
theorem putX_since {B b : Nat} {X w : World} (h : Since B X w) (hB : b + 3 < B) (t : ByteArray) (j : Nat) (d : Int) : Since B X (putX w b t j d) := by
  unfold putX putY
  have h2 : b + 2 < B := by omega
  exact ((((h.setCell h2 _).setCell h2 _).setCell h2 _).setCell h2 _).setCell hB _
theorem putY_below {b : Nat} {X w : World} (h : Below b X w) (t : ByteArray) (j d er : Int) : Below b X (putY w b t j d er) := by
  unfold putY
  have h2 : b ≤ b + 2 := by omega
  have h3 : b ≤ b + 3 := by omega
  exact ((((h.setCell h2 _).setCell h2 _).setCell h2 _).setCell h2 _).setCell h3 _
theorem putX_below {b : Nat} {X w : World} (h : Below b X w) (t : ByteArray) (j : Nat) (d : Int) : Below b X (putX w b t j d) := putY_below h t j d 0
theorem putY_heap {b k : Nat} {w : World} (hk : b + 3 < k) (t : ByteArray) (j d er : Int) : (putY w b t j d er).heap[k]? = w.heap[k]? := by
  unfold putY
  rw [Below.heap_setCell _ _ _ _ (by show k ≠ b + 3; omega), Below.heap_setCell _ _ _ _ (by show k ≠ b + 2; omega), Below.heap_setCell _ _ _ _ (by show k ≠ b + 2; omega), Below.heap_setCell _ _ _ _ (by show k ≠ b + 2; omega), Below.heap_setCell _ _ _ _ (by show k ≠ b + 2; omega)]
theorem putX_heap {b k : Nat} {w : World} (hk : b + 3 < k) (t : ByteArray) (j : Nat) (d : Int) : (putX w b t j d).heap[k]? = w.heap[k]? := putY_heap hk t j d 0
theorem put_cell {w : World} {b o D : Nat} {v : Value} (h : w.cell? ⟨b, o, none⟩ = some v) (hD : b < D) : (w.putObj D (.deferred none)).cell? ⟨b, o, none⟩ = some v :=
  ((below_putObj (Below.refl D w) (Nat.le_refl D) (.deferred none)).cell (p := ⟨b, o, none⟩) hD).trans h
theorem runDeferred_keep {W : World} {D D' : Nat} {o : Obj} (h : W.heap[D]? = some o) (hne : D ≠ D') (o' : Obj) : (W.putObj D' o').heap[D]? = some o := by
  unfold World.putObj
  simp only [Array.getElem?_setIfInBounds]
  rw [if_neg (fun e => hne e.symm)]
  exact h

set_option maxHeartbeats 8000000 in
theorem look_core (w : World) (x : Px) (l : List (Int × Int)) (p : Ptr) (z : Nat) (R : Nat → List ByteArray) (hR : ∀ W, Below w.heap.size w W → Calls Tryz.prog 35 #[x.val] W fun e w' => e = .returned (.bool true) ∧ Below W.heap.size W w')
    (hM : Meas w x.g l x.sc) (hp : PR l x.sc p z) (hC : LC w x l p z R) :
    Calls Tryz.prog 11 #[x.val, p.val] w fun e w' => e = .returned (lookV p.q (TT l x.sc p z R) R (nP p)) ∧ Below w.heap.size w w' := by
  obtain ⟨hLK, hB0⟩ := LK.start x p w
  have HR := Lib.hid hR
  have HC := Lib.hid hC
  have HP := Lib.hid hp
  have HN0 : Hid (0 < nP p) := Lib.hid (nP_pos p)
  have HPR : Hid (∀ W, Below w.heap.size w W → Calls Tryz.prog 30 #[x.g, p.val] W fun e w' => e = .returned (.bool true) ∧ Below W.heap.size W w') := Lib.hid fun W hW => right9_any l x.sc x.g W (hM.below hW) p hp.ok true hp.right
  have HPL : Hid (∀ W, Calls Tryz.prog 19 #[p.val] W fun e w' => ∃ g, e = .returned (.slice (some ⟨g, 0, none⟩) (nP p) (nP p)) ∧ PlA w' g p ∧ Below W.heap.size W w') := Lib.hid fun W => places_pr p hp.ne W
  have LK0 := Lib.hid hLK
  have BW0 := Lib.hid hB0
  have HR0 := Lib.hid (hR _ hB0)
  have HZ4 : Hid (z ≤ 4) := Lib.hid (hp.blk 0 (nP_pos p)).2.z4
  clear hR hC hp hM hLK hB0
  have hg := sum_guard
  have heq := sum_equal
  have hmx : Tryz.prog.follows .mixedOrders = true := by kernel_rfl
  simp only [Ptr.val, Ptr.cells] at HPR HPL LK0 BW0 HR0 ⊢
  unfold Px.val at HR HR0 ⊢
  unfold Px.g at HPR
  obtain ⟨W0, hW0⟩ : ∃ W0, (((w.alloc (.cells #[.slice x.ga x.gn x.gc, .int .i64 x.sc, .slice (some ⟨x.lb, 0, none⟩) x.n x.n, .slice (some ⟨x.ab, 0, none⟩) x.n x.n] 37)).alloc (.cells #[.int .i64 p.ag, .int .i64 p.aa, .int .i64 p.bg, .int .i64 p.ba, .bool p.two, .int .i64 p.sz, .int .i64 p.lv, .int .i64 p.bi, .int .u64 p.q.a, .int .u64 p.q.b, .int .u64 p.q.c, .int .u64 p.q.d] 31)).alloc (.cells #[.string ⟨#[]⟩, .int .i64 0, .int .i64 0, .int .i64 0] 45)).alloc (.cells #[.int .i64 0] 46) = W0 := ⟨_, rfl⟩
  have HW0 := Lib.hid hW0
  rw [hW0] at LK0 BW0 HR0
  clear hW0
  obtain ⟨⟨x0, x1, x2, x3⟩, ⟨p0, p1, p2, p3, p4, p5, p6, p7, p8, p9, p10, p11, plt⟩, c0, c1, c2, c3, e0, f0, f1, f2, f3, g0, blt⟩ := id LK0.out
  refine (callsIn_wide (n := 5)).1 ?_
  refine callsIn_of_wp_marks Tryz.func11 rfl trivial (wpIn_wide.2 ?_) rfl
  simp only [Tryz.ntmps11, List.size_toArray, List.length_cons, List.length_nil, Nat.reduceAdd, Nat.reduceSub, Array.replicate_succ, Array.replicate_zero, List.push_toArray, List.append_toArray, List.nil_append, List.cons_append]
  go_wp2_with (first | (rw [HW0.out]; fail))
  rw [HW0.out]
  go_wp2_with fail
  refine HR0.out.mono ?_
  rintro e w1 ⟨rfl, b1⟩
  have LK1 := Lib.hid (LK0.out.next b1)
  have BW1 := Lib.hid (next BW0.out b1)
  clear x0 x1 x2 x3 p0 p1 p2 p3 p4 p5 p6 p7 p8 p9 p10 p11 plt c0 c1 c2 c3 e0 f0 f1 f2 f3 g0 blt b1 LK0 BW0 HR0
  obtain ⟨⟨x0, x1, x2, x3⟩, ⟨p0, p1, p2, p3, p4, p5, p6, p7, p8, p9, p10, p11, plt⟩, c0, c1, c2, c3, e0, f0, f1, f2, f3, g0, blt⟩ := id LK1.out
  go_wp2_with fail
  refine (HPR.out _ BW1.out).mono ?_
  rintro e w2 ⟨rfl, b2⟩
  have LK2 := Lib.hid (LK1.out.next b2)
  have BW2 := Lib.hid (next BW1.out b2)
  clear x0 x1 x2 x3 p0 p1 p2 p3 p4 p5 p6 p7 p8 p9 p10 p11 plt c0 c1 c2 c3 e0 f0 f1 f2 f3 g0 blt b2 LK1 BW1
  obtain ⟨⟨x0, x1, x2, x3⟩, ⟨p0, p1, p2, p3, p4, p5, p6, p7, p8, p9, p10, p11, plt⟩, c0, c1, c2, c3, e0, f0, f1, f2, f3, g0, blt⟩ := id LK2.out
  go_wp2_with fail
  refine (HPL.out _).mono ?_
  rintro e wr0 ⟨gp, rfl, hPL, b3⟩
  have LKr0 := Lib.hid (LK2.out.next b3)
  have BWr0 := Lib.hid (next BW2.out b3)
  have PLr0 := Lib.hid hPL
  have HLO0 : Hid (lookTo p.q (TT l x.sc p z R) 0 = none) := Lib.hid rfl
  clear x0 x1 x2 x3 p0 p1 p2 p3 p4 p5 p6 p7 p8 p9 p10 p11 plt c0 c1 c2 c3 e0 f0 f1 f2 f3 g0 blt b3 LK2 BW2 hPL HPL HPR HR
  cases h2 : p.two with
  | false =>
    have hn : nP p = 1 := by unfold nP; rw [h2]; rfl
    rw [hn]
    have HNN := Lib.hid hn
    have H2 := Lib.hid h2
    clear hn h2
    go_wp2_with fail
    refine wp_loop_rounds 2 ?_
    rw [rounds_succ]
    obtain ⟨gl, hpl⟩ := id PLr0.out
    obtain ⟨z0, z1⟩ := hpl 0 HN0.out
    have HRW := Lib.hid (HC.out.raw 0 HN0.out)
    have HTR := Lib.hid (HC.out.tries 0 HN0.out)
    have HSZ0 := Lib.hid (HC.out.sz 0 HN0.out)
    have HLN0 := Lib.hid (HC.out.len 0 HN0.out)
    clear hpl
    obtain ⟨ka0, hka⟩ : ∃ ka, (atP p 0).1 = ka := ⟨_, rfl⟩
    obtain ⟨ta0, hta⟩ : ∃ ta, (atP p 0).2 = ta := ⟨_, rfl⟩
    rw [hka] at z0 HRW HTR
    rw [hta] at z1 HRW HTR
    clear hka hta
    simp only [Nat.zero_mul, Nat.zero_add] at z0 z1
    have hLR := LR.start wr0 0 ka0 ta0
    have b3 : Below wr0.heap.size wr0 ((wr0.alloc (.cells #[.int .i64 0] 3)).alloc (.cells #[.int .i64 ka0, .int .i64 ta0] 26)) := next (boxed _ _) (boxed _ _)
    have LK3 := Lib.hid (LKr0.out.next b3)
    have PL3 := Lib.hid (PLr0.out.next b3)
    have BW3 := Lib.hid (next BWr0.out b3)
    have LR3 : Hid (LR wr0.heap.size 0 ka0 ta0 ((wr0.alloc (.cells #[.int .i64 0] 3)).alloc (.cells #[.int .i64 ka0, .int .i64 ta0] 26))) := Lib.hid hLR
    have HR3 := Lib.hid (HRW.out _ BW3.out)
    clear b3 hLR HRW
    unfold Px.val at HR3
    obtain ⟨⟨x0, x1, x2, x3⟩, ⟨p0, p1, p2, p3, p4, p5, p6, p7, p8, p9, p10, p11, plt⟩, c0, c1, c2, c3, e0, f0, f1, f2, f3, g0, blt⟩ := id LK3.out
    obtain ⟨r0, r1, r2, rlt⟩ := id LR3.out
    clear plt blt rlt
    go_wp2_with fail
    refine HR3.out.mono ?_
    rintro e w4 ⟨v4, rfl, hO4, b4⟩
    have LK4 := Lib.hid (LK3.out.next b4)
    have PL4 := Lib.hid (PL3.out.next b4)
    have LR4 := Lib.hid (LR3.out.next b4)
    have BW4 := Lib.hid (next BW3.out b4)
    have HO4 := Lib.hid hO4.txt
    have HT4 := Lib.hid (HTR.out w4 v4 BW4.out hO4.txt)
    clear x0 x1 x2 x3 p0 p1 p2 p3 p4 p5 p6 p7 p8 p9 p10 p11 c0 c1 c2 c3 e0 f0 f1 f2 f3 g0 r0 r1 r2 z0 z1 gl HR3 hO4 b4 LK3 PL3 BW3 LR3 HTR
    obtain ⟨⟨x0, x1, x2, x3⟩, ⟨p0, p1, p2, p3, p4, p5, p6, p7, p8, p9, p10, p11, plt⟩, c0, c1, c2, c3, e0, f0, f1, f2, f3, g0, blt⟩ := id LK4.out
    obtain ⟨r0, r1, r2, rlt⟩ := id LR4.out
    unfold Px.g at HT4
    go_wp2_with fail
    refine HT4.out.mono ?_
    rintro e w5 ⟨v5, rfl, hS5, b5⟩
    obtain ⟨gf, lb, rfl, eg, hH⟩ := hS5
    have LK5 := Lib.hid (LK4.out.next b5)
    have PL5 := Lib.hid (PL4.out.next b5)
    have LR5 := Lib.hid (LR4.out.next b5)
    have BW5 := Lib.hid (next BW4.out b5)
    have HO5 := Lib.hid (HO4.out.below b5)
    have hs45 := b5.size
    have hrl4 := rlt
    have hb4 := blt
    have HEG := Lib.hid eg
    have HHH := Lib.hid hH
    have hbl : w.heap.size + 3 < w5.heap.size := LK5.out.lt
    have hrl : wr0.heap.size + 1 < w5.heap.size := LR5.out.lt
    clear x0 x1 x2 x3 p0 p1 p2 p3 p4 p5 p6 p7 p8 p9 p10 p11 plt c0 c1 c2 c3 e0 f0 f1 f2 f3 g0 blt r0 r1 r2 rlt HT4 b5 LK4 PL4 LR4 BW4 HO4 eg hH
    obtain ⟨xs, hxs⟩ : ∃ xs, TT l x.sc p z R 0 = xs := ⟨_, rfl⟩
    rw [hxs] at HHH HSZ0
    have HXS := Lib.hid hxs
    clear hxs
    go_wp2_with fail
    refine (wpIn_wide (n := 5)).1 ?_
    refine wpIn_range_both 43 44 10 11 rfl (by decide) rfl trivial HEG.out (fun y : Int × ByteArray => .int .i64 y.1) (fun y => .string y.2) (HHH.out _ (by decide)) (Since.refl _ _) rfl
      (fun i X => Below w5.heap.size w5 X ∧ ∀ y ∈ xs.take i, sumB y.2 ≠ p.q)
      (fun c _ X => c = .ret ∧ (∃ y, hitQ p.q xs = some y ∧ LX w.heap.size 0 y X) ∧ Below w.heap.size w X ∧ True)
      (fun i X Y h hb => ⟨h.1.trans hb, h.2⟩)
      (fun c i X Y h hb => ⟨h.1, ⟨h.2.1.choose, h.2.1.choose_spec.1, h.2.1.choose_spec.2.next hb hbl⟩, h.2.2.1.trans (hb.mono (by omega)), trivial⟩)
      (fun i X h => Since.of_below h.1)
      ⟨Below.refl _ _, fun y hy => by simp at hy⟩ ?assign_0 ?body_0 ?done_0 ?stop_0
    case assign_0 =>
      intro l y W
      gi_wp2
      exact ⟨rfl, trivial⟩
    case body_0 =>
      intro ln i y W hy hI
      simp only [List.setIfInBounds_toArray, List.set_cons_succ, List.set_cons_zero]
      have HI := Lib.hid hI
      have HY := Lib.hid hy
      have hysz := HSZ0.out y (List.mem_of_getElem? hy)
      have hz4 := HZ4.out
      obtain ⟨yd, yt⟩ := y
      dsimp only at hysz ⊢
      have LKW := Lib.hid (LK5.out.next hI.1)
      have LRW := Lib.hid (LR5.out.next hI.1)
      have hWs := hI.1.size
      have HSU := Lib.hid (fun W => sum_any yt W (by omega))
      have HSD : Hid (sumB yt = sumQ zeroQ (wordsB yt)) := Lib.hid rfl
      obtain ⟨r, hr⟩ : ∃ r, sumQ zeroQ (wordsB yt) = r := ⟨_, rfl⟩
      rw [hr] at HSU HSD
      obtain ⟨bq, hbq⟩ : ∃ bq, eq4 (r.a : Int) r.b r.c r.d p.q.a p.q.b p.q.c p.q.d = bq := ⟨_, rfl⟩
      have HBQ : Hid (sameQ (sumB yt) p.q = bq) := Lib.hid (by rw [HSD.out]; exact hbq)
      clear hI hy hysz hz4 hr
      obtain ⟨⟨x0, x1, x2, x3⟩, ⟨p0, p1, p2, p3, p4, p5, p6, p7, p8, p9, p10, p11, plt⟩, c0, c1, c2, c3, e0, f0, f1, f2, f3, g0, blt⟩ := id LKW.out
      obtain ⟨r0, r1, r2, rlt⟩ := id LRW.out
      clear x0 x1 x2 x3 p0 p1 p2 p3 p4 p5 p6 p7 plt blt rlt
      cases bq with
      | true =>
        gi_wp2_with fail
        
        gi_region_with_o (first | (refine ⟨trivial, ?_⟩; refine (CallsIn.inRound ln (callsIn_wide.2 (HSU.out _))).mono ?_; rintro e w7 ⟨rfl, b7⟩; have LK7 := Lib.hid (LKW.out.next ((Below.refl _ W).drew.trans b7)); have LR7 := Lib.hid (LRW.out.next ((Below.refl _ W).drew.trans b7)); have b7' := Lib.hid ((Below.refl _ W).drew.trans b7); clear b7; obtain ⟨⟨_, _, _, _⟩, ⟨_, _, _, _, _, _, _, _, k8, k9, k10, k11, _⟩, k12, k13, k14, k15, k16, k17, k18, k19, k20, k21, _⟩ := id LK7.out; obtain ⟨k22, _, _, _⟩ := id LR7.out))
        all_goals
          gi_wp2
          refine ⟨putX_since (Since.of_below b7'.out) (by omega) yt 0 yd, rfl, ⟨(yd, yt), hitQ_at HY.out (sameQ_iff.1 HBQ.out) HI.out.2, putX_ok LK7.out yt 0 yd⟩, putX_below (next (next BW5.out HI.out.1 |>.trans (Below.refl _ _)) b7'.out) yt 0 yd, trivial⟩
      | false =>
        gi_wp2_with fail
        gi_region_with_o (first | (refine ⟨trivial, ?_⟩; refine (CallsIn.inRound ln (callsIn_wide.2 (HSU.out _))).mono ?_; rintro e w7 ⟨rfl, b7⟩; have LK7 := Lib.hid (LKW.out.next ((Below.refl _ W).drew.trans b7)); have b7' := Lib.hid ((Below.refl _ W).drew.trans b7); clear b7; obtain ⟨⟨_, _, _, _⟩, ⟨_, _, _, _, _, _, _, _, k8, k9, k10, k11, _⟩, k12, k13, k14, k15, k16, k17, k18, k19, k20, k21, _⟩ := id LK7.out))
        all_goals
          gi_wp2
          refine ⟨Since.of_below b7'.out, HI.out.1.trans (b7'.out.mono hWs), fun y' hy' => ?_⟩
          rw [List.take_add_one, HY.out, Option.toList_some, List.mem_append, List.mem_singleton] at hy'
          rcases hy' with h | rfl
          · exact HI.out.2 _ h
          · intro e
            have := sameQ_iff.2 e
            rw [HBQ.out] at this
            cases this
    case stop_0 =>
      rintro D0 cd i W hD _ ⟨rfl, ⟨y, hy, hX⟩, hBW, _⟩ hK
      have HV : Hid (lookV p.q (TT l x.sc p z R) R (nP p) = .tuple #[.agg #[.string y.2, .int .i64 0, .int .i64 y.1, .int .i64 0], .int .i64 0]) := Lib.hid (by
        rw [HNN.out]
        have h1 := lookTo_hit (T := TT l x.sc p z R) HLO0.out (by rw [HXS.out]; exact hy)
        unfold lookV
        rw [lookTo_stay h1 1 (by decide)]
        rfl)
      gi_wp2
      
      have hX1 := hX.next (below_putObj (Below.refl D0 _) (Nat.le_refl D0) (.deferred none)) (by omega)
      have hB1 := below_putObj hBW (show w.heap.size ≤ D0 by omega) (.deferred none)
      obtain ⟨h0, h1, h2, h3, h4⟩ := hX1
      refine ⟨by simp, .inl ⟨_, _, rfl, run_takeDeferred hK, ?_⟩⟩
      exact ⟨_, by simp [results, Tryz.f11, go_sem, h0, h1, h2, h3, h4], congrArg Ending.returned HV.out.symm, hB1⟩
    case done_0 =>
      rintro D0 W hD ⟨hup, hno⟩ hK
      rw [List.take_length] at hno
      have HLO1 : Hid (lookTo p.q (TT l x.sc p z R) 1 = none) := Lib.hid (lookTo_miss HLO0.out (by rw [HXS.out]; exact hitQ_no hno))
      have HCT := Lib.hid (contains_nil (R 0) v4 W (HO5.out.below hup) HLN0.out)
      have LKe := Lib.hid (LK5.out.next hup)
      have PLe := Lib.hid (PL5.out.next hup)
      have BWe := Lib.hid (BW5.out.trans (hup.mono (by omega)))
      have HK0 := Lib.hid hK
      have HD0 : Hid (D0 < W.heap.size) := Lib.hid (Array.getElem?_eq_some_iff.1 hK).1
      have HDB0 : Hid (w.heap.size + 3 < D0) := Lib.hid (by omega)
      clear hup hno hK hD
      obtain ⟨lb0, hlb⟩ : ∃ b, holeL (R 0) = b := ⟨_, rfl⟩
      have HLB0 := Lib.hid hlb
      rw [hlb] at HCT
      clear hlb HHH HEG
      go_wp2_with fail
      refine HCT.out.mono ?_
      rintro e w8 ⟨rfl, hw8⟩
      have hw8' := hw8.symm
      clear hw8
      subst hw8'
      cases lb0 with
      | true =>
        go_wp2_with fail
        
        rw [rounds_succ]
        obtain ⟨⟨x0, x1, x2, x3⟩, ⟨p0, p1, p2, p3, p4, p5, p6, p7, p8, p9, p10, p11, plt⟩, c0, c1, c2, c3, e0, f0, f1, f2, f3, g0, blt⟩ := id LKe.out
        clear x0 x1 x2 x3 p0 p1 p2 p3 p4 p5 p6 p7 p8 p9 p10 p11 plt blt
        have HV : Hid (lookV p.q (TT l x.sc p z R) R (nP p) = .tuple #[.agg #[.string ⟨#[]⟩, .int .i64 0, .int .i64 0, .int .i64 0], .int .i64 6]) := Lib.hid (by
          rw [HNN.out]
          have hl : lostTo R 1 = true := by simp [lostTo, HLB0.out]
          unfold lookV
          rw [HLO1.out, hl]
          rfl)
        go_wp2
        obtain ⟨h0, h1, h2, h3, h4⟩ := putY_ok LKe.out ⟨#[]⟩ 0 0 6
        have hB0 := putY_below BWe.out ⟨#[]⟩ 0 0 6
        have hK0_ := (putY_heap HDB0.out ⟨#[]⟩ 0 0 6).trans HK0.out
        have g00 := put_cell h0 (D := D0) (by have := HDB0.out; omega)
        have g01 := put_cell h1 (D := D0) (by have := HDB0.out; omega)
        have g02 := put_cell h2 (D := D0) (by have := HDB0.out; omega)
        have g03 := put_cell h3 (D := D0) (by have := HDB0.out; omega)
        have g04 := put_cell h4 (D := D0) (by have := HDB0.out; omega)
        have hB0_ := below_putObj hB0 (show w.heap.size ≤ D0 by have := HDB0.out; omega) (.deferred none)
        unfold putY at g00 g01 g02 g03 g04
        refine ⟨by simp, .inl ⟨_, _, rfl, run_takeDeferred hK0_, ?_⟩⟩
        exact ⟨_, by simp [results, Tryz.f11, go_sem, g00, g01, g02, g03, g04], congrArg Ending.returned HV.out.symm, hB0_⟩
      | false =>
        go_wp2_with fail
        
        rw [rounds_succ]
        obtain ⟨⟨x0, x1, x2, x3⟩, ⟨p0, p1, p2, p3, p4, p5, p6, p7, p8, p9, p10, p11, plt⟩, c0, c1, c2, c3, e0, f0, f1, f2, f3, g0, blt⟩ := id LKe.out
        clear x0 x1 x2 x3 p0 p1 p2 p3 p4 p5 p6 p7 p8 p9 p10 p11 plt blt
        have HV : Hid (lookV p.q (TT l x.sc p z R) R (nP p) = .tuple #[.agg #[.string ⟨#[]⟩, .int .i64 0, .int .i64 0, .int .i64 0], .int .i64 4]) := Lib.hid (by
          rw [HNN.out]
          have hl : lostTo R 1 = false := by simp [lostTo, HLB0.out]
          unfold lookV
          rw [HLO1.out, hl]
          rfl)
        go_wp2
        obtain ⟨h0, h1, h2, h3, h4⟩ := putY_ok LKe.out ⟨#[]⟩ 0 0 4
        have hB0 := putY_below BWe.out ⟨#[]⟩ 0 0 4
        have hK0_ := (putY_heap HDB0.out ⟨#[]⟩ 0 0 4).trans HK0.out
        have g00 := put_cell h0 (D := D0) (by have := HDB0.out; omega)
        have g01 := put_cell h1 (D := D0) (by have := HDB0.out; omega)
        have g02 := put_cell h2 (D := D0) (by have := HDB0.out; omega)
        have g03 := put_cell h3 (D := D0) (by have := HDB0.out; omega)
        have g04 := put_cell h4 (D := D0) (by have := HDB0.out; omega)
        have hB0_ := below_putObj hB0 (show w.heap.size ≤ D0 by have := HDB0.out; omega) (.deferred none)
        unfold putY at g00 g01 g02 g03 g04
        refine ⟨by simp, .inl ⟨_, _, rfl, run_takeDeferred hK0_, ?_⟩⟩
        exact ⟨_, by simp [results, Tryz.f11, go_sem, g00, g01, g02, g03, g04], congrArg Ending.returned HV.out.symm, hB0_⟩
  | true =>
    have hn : nP p = 2 := by unfold nP; rw [h2]; rfl
    rw [hn]
    have HNN := Lib.hid hn
    have H2 := Lib.hid h2
    have HN1 : Hid (1 < nP p) := Lib.hid (by rw [hn]; decide)
    clear hn h2
    go_wp2_with fail
    refine wp_loop_rounds 3 ?_
    rw [rounds_succ]
    obtain ⟨gl, hpl⟩ := id PLr0.out
    obtain ⟨z0, z1⟩ := hpl 0 HN0.out
    have HRW := Lib.hid (HC.out.raw 0 HN0.out)
    have HTR := Lib.hid (HC.out.tries 0 HN0.out)
    have HSZ0 := Lib.hid (HC.out.sz 0 HN0.out)
    have HLN0 := Lib.hid (HC.out.len 0 HN0.out)
    clear hpl
    obtain ⟨ka0, hka⟩ : ∃ ka, (atP p 0).1 = ka := ⟨_, rfl⟩
    obtain ⟨ta0, hta⟩ : ∃ ta, (atP p 0).2 = ta := ⟨_, rfl⟩
    rw [hka] at z0 HRW HTR
    rw [hta] at z1 HRW HTR
    clear hka hta
    simp only [Nat.zero_mul, Nat.zero_add] at z0 z1
    have hLR := LR.start wr0 0 ka0 ta0
    have b3 : Below wr0.heap.size wr0 ((wr0.alloc (.cells #[.int .i64 0] 3)).alloc (.cells #[.int .i64 ka0, .int .i64 ta0] 26)) := next (boxed _ _) (boxed _ _)
    have LK3 := Lib.hid (LKr0.out.next b3)
    have PL3 := Lib.hid (PLr0.out.next b3)
    have BW3 := Lib.hid (next BWr0.out b3)
    have LR3 : Hid (LR wr0.heap.size 0 ka0 ta0 ((wr0.alloc (.cells #[.int .i64 0] 3)).alloc (.cells #[.int .i64 ka0, .int .i64 ta0] 26))) := Lib.hid hLR
    have HR3 := Lib.hid (HRW.out _ BW3.out)
    clear b3 hLR HRW
    unfold Px.val at HR3
    obtain ⟨⟨x0, x1, x2, x3⟩, ⟨p0, p1, p2, p3, p4, p5, p6, p7, p8, p9, p10, p11, plt⟩, c0, c1, c2, c3, e0, f0, f1, f2, f3, g0, blt⟩ := id LK3.out
    obtain ⟨r0, r1, r2, rlt⟩ := id LR3.out
    clear plt blt rlt
    go_wp2_with fail
    refine HR3.out.mono ?_
    rintro e w4 ⟨v4, rfl, hO4, b4⟩
    have LK4 := Lib.hid (LK3.out.next b4)
    have PL4 := Lib.hid (PL3.out.next b4)
    have LR4 := Lib.hid (LR3.out.next b4)
    have BW4 := Lib.hid (next BW3.out b4)
    have HO4 := Lib.hid hO4.txt
    have HT4 := Lib.hid (HTR.out w4 v4 BW4.out hO4.txt)
    clear x0 x1 x2 x3 p0 p1 p2 p3 p4 p5 p6 p7 p8 p9 p10 p11 c0 c1 c2 c3 e0 f0 f1 f2 f3 g0 r0 r1 r2 z0 z1 gl HR3 hO4 b4 LK3 PL3 BW3 LR3 HTR
    obtain ⟨⟨x0, x1, x2, x3⟩, ⟨p0, p1, p2, p3, p4, p5, p6, p7, p8, p9, p10, p11, plt⟩, c0, c1, c2, c3, e0, f0, f1, f2, f3, g0, blt⟩ := id LK4.out
    obtain ⟨r0, r1, r2, rlt⟩ := id LR4.out
    unfold Px.g at HT4
    go_wp2_with fail
    refine HT4.out.mono ?_
    rintro e w5 ⟨v5, rfl, hS5, b5⟩
    obtain ⟨gf, lb, rfl, eg, hH⟩ := hS5
    have LK5 := Lib.hid (LK4.out.next b5)
    have PL5 := Lib.hid (PL4.out.next b5)
    have LR5 := Lib.hid (LR4.out.next b5)
    have BW5 := Lib.hid (next BW4.out b5)
    have HO5 := Lib.hid (HO4.out.below b5)
    have hs45 := b5.size
    have hrl4 := rlt
    have hb4 := blt
    have HEG := Lib.hid eg
    have HHH := Lib.hid hH
    have hbl : w.heap.size + 3 < w5.heap.size := LK5.out.lt
    have hrl : wr0.heap.size + 1 < w5.heap.size := LR5.out.lt
    clear x0 x1 x2 x3 p0 p1 p2 p3 p4 p5 p6 p7 p8 p9 p10 p11 plt c0 c1 c2 c3 e0 f0 f1 f2 f3 g0 blt r0 r1 r2 rlt HT4 b5 LK4 PL4 LR4 BW4 HO4 eg hH
    obtain ⟨xs, hxs⟩ : ∃ xs, TT l x.sc p z R 0 = xs := ⟨_, rfl⟩
    rw [hxs] at HHH HSZ0
    have HXS := Lib.hid hxs
    clear hxs
    go_wp2_with fail
    refine (wpIn_wide (n := 5)).1 ?_
    refine wpIn_range_both 43 44 10 11 rfl (by decide) rfl trivial HEG.out (fun y : Int × ByteArray => .int .i64 y.1) (fun y => .string y.2) (HHH.out _ (by decide)) (Since.refl _ _) rfl
      (fun i X => Below w5.heap.size w5 X ∧ ∀ y ∈ xs.take i, sumB y.2 ≠ p.q)
      (fun c _ X => c = .ret ∧ (∃ y, hitQ p.q xs = some y ∧ LX w.heap.size 0 y X) ∧ Below w.heap.size w X ∧ True)
      (fun i X Y h hb => ⟨h.1.trans hb, h.2⟩)
      (fun c i X Y h hb => ⟨h.1, ⟨h.2.1.choose, h.2.1.choose_spec.1, h.2.1.choose_spec.2.next hb hbl⟩, h.2.2.1.trans (hb.mono (by omega)), trivial⟩)
      (fun i X h => Since.of_below h.1)
      ⟨Below.refl _ _, fun y hy => by simp at hy⟩ ?assign_0 ?body_0 ?done_0 ?stop_0
    case assign_0 =>
      intro l y W
      gi_wp2
      exact ⟨rfl, trivial⟩
    case body_0 =>
      intro ln i y W hy hI
      simp only [List.setIfInBounds_toArray, List.set_cons_succ, List.set_cons_zero]
      have HI := Lib.hid hI
      have HY := Lib.hid hy
      have hysz := HSZ0.out y (List.mem_of_getElem? hy)
      have hz4 := HZ4.out
      obtain ⟨yd, yt⟩ := y
      dsimp only at hysz ⊢
      have LKW := Lib.hid (LK5.out.next hI.1)
      have LRW := Lib.hid (LR5.out.next hI.1)
      have hWs := hI.1.size
      have HSU := Lib.hid (fun W => sum_any yt W (by omega))
      have HSD : Hid (sumB yt = sumQ zeroQ (wordsB yt)) := Lib.hid rfl
      obtain ⟨r, hr⟩ : ∃ r, sumQ zeroQ (wordsB yt) = r := ⟨_, rfl⟩
      rw [hr] at HSU HSD
      obtain ⟨bq, hbq⟩ : ∃ bq, eq4 (r.a : Int) r.b r.c r.d p.q.a p.q.b p.q.c p.q.d = bq := ⟨_, rfl⟩
      have HBQ : Hid (sameQ (sumB yt) p.q = bq) := Lib.hid (by rw [HSD.out]; exact hbq)
      clear hI hy hysz hz4 hr
      obtain ⟨⟨x0, x1, x2, x3⟩, ⟨p0, p1, p2, p3, p4, p5, p6, p7, p8, p9, p10, p11, plt⟩, c0, c1, c2, c3, e0, f0, f1, f2, f3, g0, blt⟩ := id LKW.out
      obtain ⟨r0, r1, r2, rlt⟩ := id LRW.out
      clear x0 x1 x2 x3 p0 p1 p2 p3 p4 p5 p6 p7 plt blt rlt
      cases bq with
      | true =>
        gi_wp2_with fail
        
        gi_region_with_o (first | (refine ⟨trivial, ?_⟩; refine (CallsIn.inRound ln (callsIn_wide.2 (HSU.out _))).mono ?_; rintro e w7 ⟨rfl, b7⟩; have LK7 := Lib.hid (LKW.out.next ((Below.refl _ W).drew.trans b7)); have LR7 := Lib.hid (LRW.out.next ((Below.refl _ W).drew.trans b7)); have b7' := Lib.hid ((Below.refl _ W).drew.trans b7); clear b7; obtain ⟨⟨_, _, _, _⟩, ⟨_, _, _, _, _, _, _, _, k8, k9, k10, k11, _⟩, k12, k13, k14, k15, k16, k17, k18, k19, k20, k21, _⟩ := id LK7.out; obtain ⟨k22, _, _, _⟩ := id LR7.out))
        all_goals
          gi_wp2
          refine ⟨putX_since (Since.of_below b7'.out) (by omega) yt 0 yd, rfl, ⟨(yd, yt), hitQ_at HY.out (sameQ_iff.1 HBQ.out) HI.out.2, putX_ok LK7.out yt 0 yd⟩, putX_below (next (next BW5.out HI.out.1 |>.trans (Below.refl _ _)) b7'.out) yt 0 yd, trivial⟩
      | false =>
        gi_wp2_with fail
        gi_region_with_o (first | (refine ⟨trivial, ?_⟩; refine (CallsIn.inRound ln (callsIn_wide.2 (HSU.out _))).mono ?_; rintro e w7 ⟨rfl, b7⟩; have LK7 := Lib.hid (LKW.out.next ((Below.refl _ W).drew.trans b7)); have b7' := Lib.hid ((Below.refl _ W).drew.trans b7); clear b7; obtain ⟨⟨_, _, _, _⟩, ⟨_, _, _, _, _, _, _, _, k8, k9, k10, k11, _⟩, k12, k13, k14, k15, k16, k17, k18, k19, k20, k21, _⟩ := id LK7.out))
        all_goals
          gi_wp2
          refine ⟨Since.of_below b7'.out, HI.out.1.trans (b7'.out.mono hWs), fun y' hy' => ?_⟩
          rw [List.take_add_one, HY.out, Option.toList_some, List.mem_append, List.mem_singleton] at hy'
          rcases hy' with h | rfl
          · exact HI.out.2 _ h
          · intro e
            have := sameQ_iff.2 e
            rw [HBQ.out] at this
            cases this
    case stop_0 =>
      rintro D0 cd i W hD _ ⟨rfl, ⟨y, hy, hX⟩, hBW, _⟩ hK
      have HV : Hid (lookV p.q (TT l x.sc p z R) R (nP p) = .tuple #[.agg #[.string y.2, .int .i64 0, .int .i64 y.1, .int .i64 0], .int .i64 0]) := Lib.hid (by
        rw [HNN.out]
        have h1 := lookTo_hit (T := TT l x.sc p z R) HLO0.out (by rw [HXS.out]; exact hy)
        unfold lookV
        rw [lookTo_stay h1 2 (by decide)]
        rfl)
      gi_wp2
      
      have hX1 := hX.next (below_putObj (Below.refl D0 _) (Nat.le_refl D0) (.deferred none)) (by omega)
      have hB1 := below_putObj hBW (show w.heap.size ≤ D0 by omega) (.deferred none)
      obtain ⟨h0, h1, h2, h3, h4⟩ := hX1
      refine ⟨by simp, .inl ⟨_, _, rfl, run_takeDeferred hK, ?_⟩⟩
      exact ⟨_, by simp [results, Tryz.f11, go_sem, h0, h1, h2, h3, h4], congrArg Ending.returned HV.out.symm, hB1⟩
    case done_0 =>
      rintro D0 W hD ⟨hup, hno⟩ hK
      rw [List.take_length] at hno
      have HLO1 : Hid (lookTo p.q (TT l x.sc p z R) 1 = none) := Lib.hid (lookTo_miss HLO0.out (by rw [HXS.out]; exact hitQ_no hno))
      have HCT := Lib.hid (contains_nil (R 0) v4 W (HO5.out.below hup) HLN0.out)
      have LKe := Lib.hid (LK5.out.next hup)
      have PLe := Lib.hid (PL5.out.next hup)
      have BWe := Lib.hid (BW5.out.trans (hup.mono (by omega)))
      have HK0 := Lib.hid hK
      have HD0 : Hid (D0 < W.heap.size) := Lib.hid (Array.getElem?_eq_some_iff.1 hK).1
      have HDB0 : Hid (w.heap.size + 3 < D0) := Lib.hid (by omega)
      clear hup hno hK hD
      obtain ⟨lb0, hlb⟩ : ∃ b, holeL (R 0) = b := ⟨_, rfl⟩
      have HLB0 := Lib.hid hlb
      rw [hlb] at HCT
      clear hlb HHH HEG
      go_wp2_with fail
      refine HCT.out.mono ?_
      rintro e w8 ⟨rfl, hw8⟩
      have hw8' := hw8.symm
      clear hw8
      subst hw8'
      cases lb0 with
      | true =>
        go_wp2_with fail
        
        have LKr1 := LKe
        have PLr1 := PLe
        have BWr1 := BWe
        clear HSZ0 HLN0 HO5 LK5 PL5 LR5 BW5 hbl hrl hs45 hrl4 hb4 HCT
        rw [rounds_succ]
        obtain ⟨gl, hpl⟩ := id PLr1.out
        obtain ⟨z0, z1⟩ := hpl 1 HN1.out
        have HRW := Lib.hid (HC.out.raw 1 HN1.out)
        have HTR := Lib.hid (HC.out.tries 1 HN1.out)
        have HSZ1 := Lib.hid (HC.out.sz 1 HN1.out)
        have HLN1 := Lib.hid (HC.out.len 1 HN1.out)
        clear hpl
        obtain ⟨ka1, hka⟩ : ∃ ka, (atP p 1).1 = ka := ⟨_, rfl⟩
        obtain ⟨ta1, hta⟩ : ∃ ta, (atP p 1).2 = ta := ⟨_, rfl⟩
        rw [hka] at z0 HRW HTR
        rw [hta] at z1 HRW HTR
        clear hka hta
        simp only [Nat.one_mul, Nat.reduceAdd] at z0 z1
        have hLR := LR.start w8 1 ka1 ta1
        have b3 : Below w8.heap.size w8 ((w8.alloc (.cells #[.int .i64 1] 3)).alloc (.cells #[.int .i64 ka1, .int .i64 ta1] 26)) := next (boxed _ _) (boxed _ _)
        have LK3 := Lib.hid (LKr1.out.next b3)
        have PL3 := Lib.hid (PLr1.out.next b3)
        have BW3 := Lib.hid (next BWr1.out b3)
        have LR3 : Hid (LR w8.heap.size 1 ka1 ta1 ((w8.alloc (.cells #[.int .i64 1] 3)).alloc (.cells #[.int .i64 ka1, .int .i64 ta1] 26))) := Lib.hid hLR
        have HR3 := Lib.hid (HRW.out _ BW3.out)
        have BU3 := Lib.hid b3
        clear b3 hLR HRW
        unfold Px.val at HR3
        obtain ⟨⟨x0, x1, x2, x3⟩, ⟨p0, p1, p2, p3, p4, p5, p6, p7, p8, p9, p10, p11, plt⟩, c0, c1, c2, c3, e0, f0, f1, f2, f3, g0, blt⟩ := id LK3.out
        obtain ⟨r0, r1, r2, rlt⟩ := id LR3.out
        clear plt blt rlt
        go_wp2_with fail
        refine HR3.out.mono ?_
        rintro e w4 ⟨v4, rfl, hO4, b4⟩
        have LK4 := Lib.hid (LK3.out.next b4)
        have PL4 := Lib.hid (PL3.out.next b4)
        have LR4 := Lib.hid (LR3.out.next b4)
        have BW4 := Lib.hid (next BW3.out b4)
        have BU4 := Lib.hid (next BU3.out b4)
        have HO4 := Lib.hid hO4.txt
        have HT4 := Lib.hid (HTR.out w4 v4 BW4.out hO4.txt)
        clear x0 x1 x2 x3 p0 p1 p2 p3 p4 p5 p6 p7 p8 p9 p10 p11 c0 c1 c2 c3 e0 f0 f1 f2 f3 g0 r0 r1 r2 z0 z1 gl HR3 hO4 b4 LK3 PL3 BW3 LR3 HTR
        obtain ⟨⟨x0, x1, x2, x3⟩, ⟨p0, p1, p2, p3, p4, p5, p6, p7, p8, p9, p10, p11, plt⟩, c0, c1, c2, c3, e0, f0, f1, f2, f3, g0, blt⟩ := id LK4.out
        obtain ⟨r0, r1, r2, rlt⟩ := id LR4.out
        unfold Px.g at HT4
        go_wp2_with fail
        refine HT4.out.mono ?_
        rintro e w5 ⟨v5, rfl, hS5, b5⟩
        obtain ⟨gf, lb, rfl, eg, hH⟩ := hS5
        have LK5 := Lib.hid (LK4.out.next b5)
        have PL5 := Lib.hid (PL4.out.next b5)
        have LR5 := Lib.hid (LR4.out.next b5)
        have BW5 := Lib.hid (next BW4.out b5)
        have HKw0 := Lib.hid (((next BU4.out b5).block _ HD0.out).trans HK0.out)
        have HO5 := Lib.hid (HO4.out.below b5)
        have hs45 := b5.size
        have hrl4 := rlt
        have hb4 := blt
        have HEG := Lib.hid eg
        have HHH := Lib.hid hH
        have hbl : w.heap.size + 3 < w5.heap.size := LK5.out.lt
        have hrl : w8.heap.size + 1 < w5.heap.size := LR5.out.lt
        clear x0 x1 x2 x3 p0 p1 p2 p3 p4 p5 p6 p7 p8 p9 p10 p11 plt c0 c1 c2 c3 e0 f0 f1 f2 f3 g0 blt r0 r1 r2 rlt HT4 b5 LK4 PL4 LR4 BW4 HO4 eg hH
        obtain ⟨xs, hxs⟩ : ∃ xs, TT l x.sc p z R 1 = xs := ⟨_, rfl⟩
        rw [hxs] at HHH HSZ1
        have HXS := Lib.hid hxs
        clear hxs
        go_wp2_with fail
        refine (wpIn_wide (n := 5)).1 ?_
        have HDw0 : Hid (D0 < w5.heap.size) := Lib.hid (by have := HD0.out; omega)
        refine wpIn_range_both 43 44 10 11 rfl (by decide) rfl trivial HEG.out (fun y : Int × ByteArray => .int .i64 y.1) (fun y => .string y.2) (HHH.out _ (by decide)) (Since.refl _ _) rfl
          (fun i X => Below w5.heap.size w5 X ∧ ∀ y ∈ xs.take i, sumB y.2 ≠ p.q)
          (fun c _ X => c = .ret ∧ (∃ y, hitQ p.q xs = some y ∧ LX w.heap.size 1 y X) ∧ Below w.heap.size w X ∧ True ∧ X.heap[D0]? = some (.deferred (some [])))
          (fun i X Y h hb => ⟨h.1.trans hb, h.2⟩)
          (fun c i X Y h hb => ⟨h.1, ⟨h.2.1.choose, h.2.1.choose_spec.1, h.2.1.choose_spec.2.next hb hbl⟩, h.2.2.1.trans (hb.mono (by omega)), ⟨trivial, (hb.block _ HDw0.out).trans (h.2.2.2.2)⟩⟩)
          (fun i X h => Since.of_below h.1)
          ⟨Below.refl _ _, fun y hy => by simp at hy⟩ ?assign_1t ?body_1t ?done_1t ?stop_1t
        case assign_1t =>
          intro l y W
          gi_wp2
          exact ⟨rfl, trivial⟩
        case body_1t =>
          intro ln i y W hy hI
          simp only [List.setIfInBounds_toArray, List.set_cons_succ, List.set_cons_zero]
          have HI := Lib.hid hI
          have HY := Lib.hid hy
          have hysz := HSZ1.out y (List.mem_of_getElem? hy)
          have hz4 := HZ4.out
          obtain ⟨yd, yt⟩ := y
          dsimp only at hysz ⊢
          have LKW := Lib.hid (LK5.out.next hI.1)
          have LRW := Lib.hid (LR5.out.next hI.1)
          have hWs := hI.1.size
          have HSU := Lib.hid (fun W => sum_any yt W (by omega))
          have HSD : Hid (sumB yt = sumQ zeroQ (wordsB yt)) := Lib.hid rfl
          obtain ⟨r, hr⟩ : ∃ r, sumQ zeroQ (wordsB yt) = r := ⟨_, rfl⟩
          rw [hr] at HSU HSD
          obtain ⟨bq, hbq⟩ : ∃ bq, eq4 (r.a : Int) r.b r.c r.d p.q.a p.q.b p.q.c p.q.d = bq := ⟨_, rfl⟩
          have HBQ : Hid (sameQ (sumB yt) p.q = bq) := Lib.hid (by rw [HSD.out]; exact hbq)
          clear hI hy hysz hz4 hr
          obtain ⟨⟨x0, x1, x2, x3⟩, ⟨p0, p1, p2, p3, p4, p5, p6, p7, p8, p9, p10, p11, plt⟩, c0, c1, c2, c3, e0, f0, f1, f2, f3, g0, blt⟩ := id LKW.out
          obtain ⟨r0, r1, r2, rlt⟩ := id LRW.out
          clear x0 x1 x2 x3 p0 p1 p2 p3 p4 p5 p6 p7 plt blt rlt
          cases bq with
          | true =>
            gi_wp2_with fail
            
            gi_region_with_o (first | (refine ⟨trivial, ?_⟩; refine (CallsIn.inRound ln (callsIn_wide.2 (HSU.out _))).mono ?_; rintro e w7 ⟨rfl, b7⟩; have LK7 := Lib.hid (LKW.out.next ((Below.refl _ W).drew.trans b7)); have LR7 := Lib.hid (LRW.out.next ((Below.refl _ W).drew.trans b7)); have b7' := Lib.hid ((Below.refl _ W).drew.trans b7); clear b7; obtain ⟨⟨_, _, _, _⟩, ⟨_, _, _, _, _, _, _, _, k8, k9, k10, k11, _⟩, k12, k13, k14, k15, k16, k17, k18, k19, k20, k21, _⟩ := id LK7.out; obtain ⟨k22, _, _, _⟩ := id LR7.out))
            all_goals
              gi_wp2
              refine ⟨putX_since (Since.of_below b7'.out) (by omega) yt 1 yd, rfl, ⟨(yd, yt), hitQ_at HY.out (sameQ_iff.1 HBQ.out) HI.out.2, putX_ok LK7.out yt 1 yd⟩, putX_below (next (next BW5.out HI.out.1 |>.trans (Below.refl _ _)) b7'.out) yt 1 yd, ⟨trivial, (putX_heap (w := w7) (b := w.heap.size) (by have := HDB0.out; omega) yt 1 yd).trans ((b7'.out.block _ (by have := HDw0.out; show _ < W.heap.size; omega)).trans ((HI.out.1.block _ HDw0.out).trans HKw0.out))⟩⟩
          | false =>
            gi_wp2_with fail
            gi_region_with_o (first | (refine ⟨trivial, ?_⟩; refine (CallsIn.inRound ln (callsIn_wide.2 (HSU.out _))).mono ?_; rintro e w7 ⟨rfl, b7⟩; have LK7 := Lib.hid (LKW.out.next ((Below.refl _ W).drew.trans b7)); have b7' := Lib.hid ((Below.refl _ W).drew.trans b7); clear b7; obtain ⟨⟨_, _, _, _⟩, ⟨_, _, _, _, _, _, _, _, k8, k9, k10, k11, _⟩, k12, k13, k14, k15, k16, k17, k18, k19, k20, k21, _⟩ := id LK7.out))
            all_goals
              gi_wp2
              refine ⟨Since.of_below b7'.out, HI.out.1.trans (b7'.out.mono hWs), fun y' hy' => ?_⟩
              rw [List.take_add_one, HY.out, Option.toList_some, List.mem_append, List.mem_singleton] at hy'
              rcases hy' with h | rfl
              · exact HI.out.2 _ h
              · intro e
                have := sameQ_iff.2 e
                rw [HBQ.out] at this
                cases this
        case stop_1t =>
          rintro D1 cd i W hD _ ⟨rfl, ⟨y, hy, hX⟩, hBW, _, hKK0⟩ hK
          have HV : Hid (lookV p.q (TT l x.sc p z R) R (nP p) = .tuple #[.agg #[.string y.2, .int .i64 1, .int .i64 y.1, .int .i64 0], .int .i64 0]) := Lib.hid (by
            rw [HNN.out]
            have h1 := lookTo_hit (T := TT l x.sc p z R) HLO1.out (by rw [HXS.out]; exact hy)
            unfold lookV
            rw [lookTo_stay h1 2 (by decide)]
            rfl)
          gi_wp2
          
          have hX1 := hX.next (below_putObj (Below.refl D1 _) (Nat.le_refl D1) (.deferred none)) (by omega)
          have hB1 := below_putObj hBW (show w.heap.size ≤ D1 by omega) (.deferred none)
          have hX2 := hX1.next (below_putObj (Below.refl D0 _) (Nat.le_refl D0) (.deferred none)) (by have := HDB0.out; omega)
          have hB2 := below_putObj hB1 (show w.heap.size ≤ D0 by have := HDB0.out; omega) (.deferred none)
          have hKK := runDeferred_keep (D' := D1) hKK0 (by have := HD0.out; omega) (.deferred none)
          obtain ⟨h0, h1, h2, h3, h4⟩ := hX2
          refine ⟨by simp, .inl ⟨_, _, rfl, run_takeDeferred hK, ?_⟩⟩
          refine ⟨by simp, .inl ⟨_, _, rfl, run_takeDeferred hKK, ?_⟩⟩
          exact ⟨_, by simp [results, Tryz.f11, go_sem, h0, h1, h2, h3, h4], congrArg Ending.returned HV.out.symm, hB2⟩
        case done_1t =>
          rintro D1 W hD ⟨hup, hno⟩ hK
          rw [List.take_length] at hno
          have HLO2 : Hid (lookTo p.q (TT l x.sc p z R) 2 = none) := Lib.hid (lookTo_miss HLO1.out (by rw [HXS.out]; exact hitQ_no hno))
          have HCT := Lib.hid (contains_nil (R 1) v4 W (HO5.out.below hup) HLN1.out)
          have LKe := Lib.hid (LK5.out.next hup)
          have PLe := Lib.hid (PL5.out.next hup)
          have BWe := Lib.hid (BW5.out.trans (hup.mono (by omega)))
          have HK1 := Lib.hid hK
          have HD1 : Hid (D1 < W.heap.size) := Lib.hid (Array.getElem?_eq_some_iff.1 hK).1
          have HDB1 : Hid (w.heap.size + 3 < D1) := Lib.hid (by omega)
          have HKn0 := Lib.hid ((hup.block _ HDw0.out).trans HKw0.out)
          have HDn0 : Hid (D0 < D1) := Lib.hid (by have := HD0.out; omega)
          clear hup hno hK hD
          obtain ⟨lb1, hlb⟩ : ∃ b, holeL (R 1) = b := ⟨_, rfl⟩
          have HLB1 := Lib.hid hlb
          rw [hlb] at HCT
          clear hlb HHH HEG
          go_wp2_with fail
          refine HCT.out.mono ?_
          rintro e w8 ⟨rfl, hw8⟩
          have hw8' := hw8.symm
          clear hw8
          subst hw8'
          cases lb1 with
          | true =>
            go_wp2_with fail
            
            rw [rounds_succ]
            obtain ⟨⟨x0, x1, x2, x3⟩, ⟨p0, p1, p2, p3, p4, p5, p6, p7, p8, p9, p10, p11, plt⟩, c0, c1, c2, c3, e0, f0, f1, f2, f3, g0, blt⟩ := id LKe.out
            clear x0 x1 x2 x3 p0 p1 p2 p3 p4 p5 p6 p7 p8 p9 p10 p11 plt blt
            have HV : Hid (lookV p.q (TT l x.sc p z R) R (nP p) = .tuple #[.agg #[.string ⟨#[]⟩, .int .i64 0, .int .i64 0, .int .i64 0], .int .i64 6]) := Lib.hid (by
              rw [HNN.out]
              have hl : lostTo R 2 = true := by simp [lostTo, HLB0.out, HLB1.out]
              unfold lookV
              rw [HLO2.out, hl]
              rfl)
            go_wp2
            obtain ⟨h0, h1, h2, h3, h4⟩ := putY_ok LKe.out ⟨#[]⟩ 0 0 6
            have hB0 := putY_below BWe.out ⟨#[]⟩ 0 0 6
            have hK1_ := (putY_heap HDB1.out ⟨#[]⟩ 0 0 6).trans HK1.out
            have hK0_ := runDeferred_keep (D' := D1) ((putY_heap HDB0.out ⟨#[]⟩ 0 0 6).trans HKn0.out) (by have := HDn0.out; omega) (.deferred none)
            have g10 := put_cell h0 (D := D1) (by have := HDB1.out; omega)
            have g11 := put_cell h1 (D := D1) (by have := HDB1.out; omega)
            have g12 := put_cell h2 (D := D1) (by have := HDB1.out; omega)
            have g13 := put_cell h3 (D := D1) (by have := HDB1.out; omega)
            have g14 := put_cell h4 (D := D1) (by have := HDB1.out; omega)
            have hB1_ := below_putObj hB0 (show w.heap.size ≤ D1 by have := HDB1.out; omega) (.deferred none)
            have g00 := put_cell g10 (D := D0) (by have := HDB0.out; omega)
            have g01 := put_cell g11 (D := D0) (by have := HDB0.out; omega)
            have g02 := put_cell g12 (D := D0) (by have := HDB0.out; omega)
            have g03 := put_cell g13 (D := D0) (by have := HDB0.out; omega)
            have g04 := put_cell g14 (D := D0) (by have := HDB0.out; omega)
            have hB0_ := below_putObj hB1_ (show w.heap.size ≤ D0 by have := HDB0.out; omega) (.deferred none)
            unfold putY at g00 g01 g02 g03 g04
            refine ⟨by simp, .inl ⟨_, _, rfl, run_takeDeferred hK1_, ?_⟩⟩
            refine ⟨by simp, .inl ⟨_, _, rfl, run_takeDeferred hK0_, ?_⟩⟩
            exact ⟨_, by simp [results, Tryz.f11, go_sem, g00, g01, g02, g03, g04], congrArg Ending.returned HV.out.symm, hB0_⟩
          | false =>
            go_wp2_with fail
            
            rw [rounds_succ]
            obtain ⟨⟨x0, x1, x2, x3⟩, ⟨p0, p1, p2, p3, p4, p5, p6, p7, p8, p9, p10, p11, plt⟩, c0, c1, c2, c3, e0, f0, f1, f2, f3, g0, blt⟩ := id LKe.out
            clear x0 x1 x2 x3 p0 p1 p2 p3 p4 p5 p6 p7 p8 p9 p10 p11 plt blt
            have HV : Hid (lookV p.q (TT l x.sc p z R) R (nP p) = .tuple #[.agg #[.string ⟨#[]⟩, .int .i64 0, .int .i64 0, .int .i64 0], .int .i64 6]) := Lib.hid (by
              rw [HNN.out]
              have hl : lostTo R 2 = true := by simp [lostTo, HLB0.out, HLB1.out]
              unfold lookV
              rw [HLO2.out, hl]
              rfl)
            go_wp2
            obtain ⟨h0, h1, h2, h3, h4⟩ := putY_ok LKe.out ⟨#[]⟩ 0 0 6
            have hB0 := putY_below BWe.out ⟨#[]⟩ 0 0 6
            have hK1_ := (putY_heap HDB1.out ⟨#[]⟩ 0 0 6).trans HK1.out
            have hK0_ := runDeferred_keep (D' := D1) ((putY_heap HDB0.out ⟨#[]⟩ 0 0 6).trans HKn0.out) (by have := HDn0.out; omega) (.deferred none)
            have g10 := put_cell h0 (D := D1) (by have := HDB1.out; omega)
            have g11 := put_cell h1 (D := D1) (by have := HDB1.out; omega)
            have g12 := put_cell h2 (D := D1) (by have := HDB1.out; omega)
            have g13 := put_cell h3 (D := D1) (by have := HDB1.out; omega)
            have g14 := put_cell h4 (D := D1) (by have := HDB1.out; omega)
            have hB1_ := below_putObj hB0 (show w.heap.size ≤ D1 by have := HDB1.out; omega) (.deferred none)
            have g00 := put_cell g10 (D := D0) (by have := HDB0.out; omega)
            have g01 := put_cell g11 (D := D0) (by have := HDB0.out; omega)
            have g02 := put_cell g12 (D := D0) (by have := HDB0.out; omega)
            have g03 := put_cell g13 (D := D0) (by have := HDB0.out; omega)
            have g04 := put_cell g14 (D := D0) (by have := HDB0.out; omega)
            have hB0_ := below_putObj hB1_ (show w.heap.size ≤ D0 by have := HDB0.out; omega) (.deferred none)
            unfold putY at g00 g01 g02 g03 g04
            refine ⟨by simp, .inl ⟨_, _, rfl, run_takeDeferred hK1_, ?_⟩⟩
            refine ⟨by simp, .inl ⟨_, _, rfl, run_takeDeferred hK0_, ?_⟩⟩
            exact ⟨_, by simp [results, Tryz.f11, go_sem, g00, g01, g02, g03, g04], congrArg Ending.returned HV.out.symm, hB0_⟩
      | false =>
        go_wp2_with fail
        
        have LKr1 := LKe
        have PLr1 := PLe
        have BWr1 := BWe
        clear HSZ0 HLN0 HO5 LK5 PL5 LR5 BW5 hbl hrl hs45 hrl4 hb4 HCT
        rw [rounds_succ]
        obtain ⟨gl, hpl⟩ := id PLr1.out
        obtain ⟨z0, z1⟩ := hpl 1 HN1.out
        have HRW := Lib.hid (HC.out.raw 1 HN1.out)
        have HTR := Lib.hid (HC.out.tries 1 HN1.out)
        have HSZ1 := Lib.hid (HC.out.sz 1 HN1.out)
        have HLN1 := Lib.hid (HC.out.len 1 HN1.out)
        clear hpl
        obtain ⟨ka1, hka⟩ : ∃ ka, (atP p 1).1 = ka := ⟨_, rfl⟩
        obtain ⟨ta1, hta⟩ : ∃ ta, (atP p 1).2 = ta := ⟨_, rfl⟩
        rw [hka] at z0 HRW HTR
        rw [hta] at z1 HRW HTR
        clear hka hta
        simp only [Nat.one_mul, Nat.reduceAdd] at z0 z1
        have hLR := LR.start w8 1 ka1 ta1
        have b3 : Below w8.heap.size w8 ((w8.alloc (.cells #[.int .i64 1] 3)).alloc (.cells #[.int .i64 ka1, .int .i64 ta1] 26)) := next (boxed _ _) (boxed _ _)
        have LK3 := Lib.hid (LKr1.out.next b3)
        have PL3 := Lib.hid (PLr1.out.next b3)
        have BW3 := Lib.hid (next BWr1.out b3)
        have LR3 : Hid (LR w8.heap.size 1 ka1 ta1 ((w8.alloc (.cells #[.int .i64 1] 3)).alloc (.cells #[.int .i64 ka1, .int .i64 ta1] 26))) := Lib.hid hLR
        have HR3 := Lib.hid (HRW.out _ BW3.out)
        have BU3 := Lib.hid b3
        clear b3 hLR HRW
        unfold Px.val at HR3
        obtain ⟨⟨x0, x1, x2, x3⟩, ⟨p0, p1, p2, p3, p4, p5, p6, p7, p8, p9, p10, p11, plt⟩, c0, c1, c2, c3, e0, f0, f1, f2, f3, g0, blt⟩ := id LK3.out
        obtain ⟨r0, r1, r2, rlt⟩ := id LR3.out
        clear plt blt rlt
        go_wp2_with fail
        refine HR3.out.mono ?_
        rintro e w4 ⟨v4, rfl, hO4, b4⟩
        have LK4 := Lib.hid (LK3.out.next b4)
        have PL4 := Lib.hid (PL3.out.next b4)
        have LR4 := Lib.hid (LR3.out.next b4)
        have BW4 := Lib.hid (next BW3.out b4)
        have BU4 := Lib.hid (next BU3.out b4)
        have HO4 := Lib.hid hO4.txt
        have HT4 := Lib.hid (HTR.out w4 v4 BW4.out hO4.txt)
        clear x0 x1 x2 x3 p0 p1 p2 p3 p4 p5 p6 p7 p8 p9 p10 p11 c0 c1 c2 c3 e0 f0 f1 f2 f3 g0 r0 r1 r2 z0 z1 gl HR3 hO4 b4 LK3 PL3 BW3 LR3 HTR
        obtain ⟨⟨x0, x1, x2, x3⟩, ⟨p0, p1, p2, p3, p4, p5, p6, p7, p8, p9, p10, p11, plt⟩, c0, c1, c2, c3, e0, f0, f1, f2, f3, g0, blt⟩ := id LK4.out
        obtain ⟨r0, r1, r2, rlt⟩ := id LR4.out
        unfold Px.g at HT4
        go_wp2_with fail
        refine HT4.out.mono ?_
        rintro e w5 ⟨v5, rfl, hS5, b5⟩
        obtain ⟨gf, lb, rfl, eg, hH⟩ := hS5
        have LK5 := Lib.hid (LK4.out.next b5)
        have PL5 := Lib.hid (PL4.out.next b5)
        have LR5 := Lib.hid (LR4.out.next b5)
        have BW5 := Lib.hid (next BW4.out b5)
        have HKw0 := Lib.hid (((next BU4.out b5).block _ HD0.out).trans HK0.out)
        have HO5 := Lib.hid (HO4.out.below b5)
        have hs45 := b5.size
        have hrl4 := rlt
        have hb4 := blt
        have HEG := Lib.hid eg
        have HHH := Lib.hid hH
        have hbl : w.heap.size + 3 < w5.heap.size := LK5.out.lt
        have hrl : w8.heap.size + 1 < w5.heap.size := LR5.out.lt
        clear x0 x1 x2 x3 p0 p1 p2 p3 p4 p5 p6 p7 p8 p9 p10 p11 plt c0 c1 c2 c3 e0 f0 f1 f2 f3 g0 blt r0 r1 r2 rlt HT4 b5 LK4 PL4 LR4 BW4 HO4 eg hH
        obtain ⟨xs, hxs⟩ : ∃ xs, TT l x.sc p z R 1 = xs := ⟨_, rfl⟩
        rw [hxs] at HHH HSZ1
        have HXS := Lib.hid hxs
        clear hxs
        go_wp2_with fail
        refine (wpIn_wide (n := 5)).1 ?_
        have HDw0 : Hid (D0 < w5.heap.size) := Lib.hid (by have := HD0.out; omega)
        refine wpIn_range_both 43 44 10 11 rfl (by decide) rfl trivial HEG.out (fun y : Int × ByteArray => .int .i64 y.1) (fun y => .string y.2) (HHH.out _ (by decide)) (Since.refl _ _) rfl
          (fun i X => Below w5.heap.size w5 X ∧ ∀ y ∈ xs.take i, sumB y.2 ≠ p.q)
          (fun c _ X => c = .ret ∧ (∃ y, hitQ p.q xs = some y ∧ LX w.heap.size 1 y X) ∧ Below w.heap.size w X ∧ True ∧ X.heap[D0]? = some (.deferred (some [])))
          (fun i X Y h hb => ⟨h.1.trans hb, h.2⟩)
          (fun c i X Y h hb => ⟨h.1, ⟨h.2.1.choose, h.2.1.choose_spec.1, h.2.1.choose_spec.2.next hb hbl⟩, h.2.2.1.trans (hb.mono (by omega)), ⟨trivial, (hb.block _ HDw0.out).trans (h.2.2.2.2)⟩⟩)
          (fun i X h => Since.of_below h.1)
          ⟨Below.refl _ _, fun y hy => by simp at hy⟩ ?assign_1f ?body_1f ?done_1f ?stop_1f
        case assign_1f =>
          intro l y W
          gi_wp2
          exact ⟨rfl, trivial⟩
        case body_1f =>
          intro ln i y W hy hI
          simp only [List.setIfInBounds_toArray, List.set_cons_succ, List.set_cons_zero]
          have HI := Lib.hid hI
          have HY := Lib.hid hy
          have hysz := HSZ1.out y (List.mem_of_getElem? hy)
          have hz4 := HZ4.out
          obtain ⟨yd, yt⟩ := y
          dsimp only at hysz ⊢
          have LKW := Lib.hid (LK5.out.next hI.1)
          have LRW := Lib.hid (LR5.out.next hI.1)
          have hWs := hI.1.size
          have HSU := Lib.hid (fun W => sum_any yt W (by omega))
          have HSD : Hid (sumB yt = sumQ zeroQ (wordsB yt)) := Lib.hid rfl
          obtain ⟨r, hr⟩ : ∃ r, sumQ zeroQ (wordsB yt) = r := ⟨_, rfl⟩
          rw [hr] at HSU HSD
          obtain ⟨bq, hbq⟩ : ∃ bq, eq4 (r.a : Int) r.b r.c r.d p.q.a p.q.b p.q.c p.q.d = bq := ⟨_, rfl⟩
          have HBQ : Hid (sameQ (sumB yt) p.q = bq) := Lib.hid (by rw [HSD.out]; exact hbq)
          clear hI hy hysz hz4 hr
          obtain ⟨⟨x0, x1, x2, x3⟩, ⟨p0, p1, p2, p3, p4, p5, p6, p7, p8, p9, p10, p11, plt⟩, c0, c1, c2, c3, e0, f0, f1, f2, f3, g0, blt⟩ := id LKW.out
          obtain ⟨r0, r1, r2, rlt⟩ := id LRW.out
          clear x0 x1 x2 x3 p0 p1 p2 p3 p4 p5 p6 p7 plt blt rlt
          cases bq with
          | true =>
            gi_wp2_with fail
            
            gi_region_with_o (first | (refine ⟨trivial, ?_⟩; refine (CallsIn.inRound ln (callsIn_wide.2 (HSU.out _))).mono ?_; rintro e w7 ⟨rfl, b7⟩; have LK7 := Lib.hid (LKW.out.next ((Below.refl _ W).drew.trans b7)); have LR7 := Lib.hid (LRW.out.next ((Below.refl _ W).drew.trans b7)); have b7' := Lib.hid ((Below.refl _ W).drew.trans b7); clear b7; obtain ⟨⟨_, _, _, _⟩, ⟨_, _, _, _, _, _, _, _, k8, k9, k10, k11, _⟩, k12, k13, k14, k15, k16, k17, k18, k19, k20, k21, _⟩ := id LK7.out; obtain ⟨k22, _, _, _⟩ := id LR7.out))
            all_goals
              gi_wp2
              refine ⟨putX_since (Since.of_below b7'.out) (by omega) yt 1 yd, rfl, ⟨(yd, yt), hitQ_at HY.out (sameQ_iff.1 HBQ.out) HI.out.2, putX_ok LK7.out yt 1 yd⟩, putX_below (next (next BW5.out HI.out.1 |>.trans (Below.refl _ _)) b7'.out) yt 1 yd, ⟨trivial, (putX_heap (w := w7) (b := w.heap.size) (by have := HDB0.out; omega) yt 1 yd).trans ((b7'.out.block _ (by have := HDw0.out; show _ < W.heap.size; omega)).trans ((HI.out.1.block _ HDw0.out).trans HKw0.out))⟩⟩
          | false =>
            gi_wp2_with fail
            gi_region_with_o (first | (refine ⟨trivial, ?_⟩; refine (CallsIn.inRound ln (callsIn_wide.2 (HSU.out _))).mono ?_; rintro e w7 ⟨rfl, b7⟩; have LK7 := Lib.hid (LKW.out.next ((Below.refl _ W).drew.trans b7)); have b7' := Lib.hid ((Below.refl _ W).drew.trans b7); clear b7; obtain ⟨⟨_, _, _, _⟩, ⟨_, _, _, _, _, _, _, _, k8, k9, k10, k11, _⟩, k12, k13, k14, k15, k16, k17, k18, k19, k20, k21, _⟩ := id LK7.out))
            all_goals
              gi_wp2
              refine ⟨Since.of_below b7'.out, HI.out.1.trans (b7'.out.mono hWs), fun y' hy' => ?_⟩
              rw [List.take_add_one, HY.out, Option.toList_some, List.mem_append, List.mem_singleton] at hy'
              rcases hy' with h | rfl
              · exact HI.out.2 _ h
              · intro e
                have := sameQ_iff.2 e
                rw [HBQ.out] at this
                cases this
        case stop_1f =>
          rintro D1 cd i W hD _ ⟨rfl, ⟨y, hy, hX⟩, hBW, _, hKK0⟩ hK
          have HV : Hid (lookV p.q (TT l x.sc p z R) R (nP p) = .tuple #[.agg #[.string y.2, .int .i64 1, .int .i64 y.1, .int .i64 0], .int .i64 0]) := Lib.hid (by
            rw [HNN.out]
            have h1 := lookTo_hit (T := TT l x.sc p z R) HLO1.out (by rw [HXS.out]; exact hy)
            unfold lookV
            rw [lookTo_stay h1 2 (by decide)]
            rfl)
          gi_wp2
          
          have hX1 := hX.next (below_putObj (Below.refl D1 _) (Nat.le_refl D1) (.deferred none)) (by omega)
          have hB1 := below_putObj hBW (show w.heap.size ≤ D1 by omega) (.deferred none)
          have hX2 := hX1.next (below_putObj (Below.refl D0 _) (Nat.le_refl D0) (.deferred none)) (by have := HDB0.out; omega)
          have hB2 := below_putObj hB1 (show w.heap.size ≤ D0 by have := HDB0.out; omega) (.deferred none)
          have hKK := runDeferred_keep (D' := D1) hKK0 (by have := HD0.out; omega) (.deferred none)
          obtain ⟨h0, h1, h2, h3, h4⟩ := hX2
          refine ⟨by simp, .inl ⟨_, _, rfl, run_takeDeferred hK, ?_⟩⟩
          refine ⟨by simp, .inl ⟨_, _, rfl, run_takeDeferred hKK, ?_⟩⟩
          exact ⟨_, by simp [results, Tryz.f11, go_sem, h0, h1, h2, h3, h4], congrArg Ending.returned HV.out.symm, hB2⟩
        case done_1f =>
          rintro D1 W hD ⟨hup, hno⟩ hK
          rw [List.take_length] at hno
          have HLO2 : Hid (lookTo p.q (TT l x.sc p z R) 2 = none) := Lib.hid (lookTo_miss HLO1.out (by rw [HXS.out]; exact hitQ_no hno))
          have HCT := Lib.hid (contains_nil (R 1) v4 W (HO5.out.below hup) HLN1.out)
          have LKe := Lib.hid (LK5.out.next hup)
          have PLe := Lib.hid (PL5.out.next hup)
          have BWe := Lib.hid (BW5.out.trans (hup.mono (by omega)))
          have HK1 := Lib.hid hK
          have HD1 : Hid (D1 < W.heap.size) := Lib.hid (Array.getElem?_eq_some_iff.1 hK).1
          have HDB1 : Hid (w.heap.size + 3 < D1) := Lib.hid (by omega)
          have HKn0 := Lib.hid ((hup.block _ HDw0.out).trans HKw0.out)
          have HDn0 : Hid (D0 < D1) := Lib.hid (by have := HD0.out; omega)
          clear hup hno hK hD
          obtain ⟨lb1, hlb⟩ : ∃ b, holeL (R 1) = b := ⟨_, rfl⟩
          have HLB1 := Lib.hid hlb
          rw [hlb] at HCT
          clear hlb HHH HEG
          go_wp2_with fail
          refine HCT.out.mono ?_
          rintro e w8 ⟨rfl, hw8⟩
          have hw8' := hw8.symm
          clear hw8
          subst hw8'
          cases lb1 with
          | true =>
            go_wp2_with fail
            
            rw [rounds_succ]
            obtain ⟨⟨x0, x1, x2, x3⟩, ⟨p0, p1, p2, p3, p4, p5, p6, p7, p8, p9, p10, p11, plt⟩, c0, c1, c2, c3, e0, f0, f1, f2, f3, g0, blt⟩ := id LKe.out
            clear x0 x1 x2 x3 p0 p1 p2 p3 p4 p5 p6 p7 p8 p9 p10 p11 plt blt
            have HV : Hid (lookV p.q (TT l x.sc p z R) R (nP p) = .tuple #[.agg #[.string ⟨#[]⟩, .int .i64 0, .int .i64 0, .int .i64 0], .int .i64 6]) := Lib.hid (by
              rw [HNN.out]
              have hl : lostTo R 2 = true := by simp [lostTo, HLB0.out, HLB1.out]
              unfold lookV
              rw [HLO2.out, hl]
              rfl)
            go_wp2
            obtain ⟨h0, h1, h2, h3, h4⟩ := putY_ok LKe.out ⟨#[]⟩ 0 0 6
            have hB0 := putY_below BWe.out ⟨#[]⟩ 0 0 6
            have hK1_ := (putY_heap HDB1.out ⟨#[]⟩ 0 0 6).trans HK1.out
            have hK0_ := runDeferred_keep (D' := D1) ((putY_heap HDB0.out ⟨#[]⟩ 0 0 6).trans HKn0.out) (by have := HDn0.out; omega) (.deferred none)
            have g10 := put_cell h0 (D := D1) (by have := HDB1.out; omega)
            have g11 := put_cell h1 (D := D1) (by have := HDB1.out; omega)
            have g12 := put_cell h2 (D := D1) (by have := HDB1.out; omega)
            have g13 := put_cell h3 (D := D1) (by have := HDB1.out; omega)
            have g14 := put_cell h4 (D := D1) (by have := HDB1.out; omega)
            have hB1_ := below_putObj hB0 (show w.heap.size ≤ D1 by have := HDB1.out; omega) (.deferred none)
            have g00 := put_cell g10 (D := D0) (by have := HDB0.out; omega)
            have g01 := put_cell g11 (D := D0) (by have := HDB0.out; omega)
            have g02 := put_cell g12 (D := D0) (by have := HDB0.out; omega)
            have g03 := put_cell g13 (D := D0) (by have := HDB0.out; omega)
            have g04 := put_cell g14 (D := D0) (by have := HDB0.out; omega)
            have hB0_ := below_putObj hB1_ (show w.heap.size ≤ D0 by have := HDB0.out; omega) (.deferred none)
            unfold putY at g00 g01 g02 g03 g04
            refine ⟨by simp, .inl ⟨_, _, rfl, run_takeDeferred hK1_, ?_⟩⟩
            refine ⟨by simp, .inl ⟨_, _, rfl, run_takeDeferred hK0_, ?_⟩⟩
            exact ⟨_, by simp [results, Tryz.f11, go_sem, g00, g01, g02, g03, g04], congrArg Ending.returned HV.out.symm, hB0_⟩
          | false =>
            go_wp2_with fail
            
            rw [rounds_succ]
            obtain ⟨⟨x0, x1, x2, x3⟩, ⟨p0, p1, p2, p3, p4, p5, p6, p7, p8, p9, p10, p11, plt⟩, c0, c1, c2, c3, e0, f0, f1, f2, f3, g0, blt⟩ := id LKe.out
            clear x0 x1 x2 x3 p0 p1 p2 p3 p4 p5 p6 p7 p8 p9 p10 p11 plt blt
            have HV : Hid (lookV p.q (TT l x.sc p z R) R (nP p) = .tuple #[.agg #[.string ⟨#[]⟩, .int .i64 0, .int .i64 0, .int .i64 0], .int .i64 4]) := Lib.hid (by
              rw [HNN.out]
              have hl : lostTo R 2 = false := by simp [lostTo, HLB0.out, HLB1.out]
              unfold lookV
              rw [HLO2.out, hl]
              rfl)
            go_wp2
            obtain ⟨h0, h1, h2, h3, h4⟩ := putY_ok LKe.out ⟨#[]⟩ 0 0 4
            have hB0 := putY_below BWe.out ⟨#[]⟩ 0 0 4
            have hK1_ := (putY_heap HDB1.out ⟨#[]⟩ 0 0 4).trans HK1.out
            have hK0_ := runDeferred_keep (D' := D1) ((putY_heap HDB0.out ⟨#[]⟩ 0 0 4).trans HKn0.out) (by have := HDn0.out; omega) (.deferred none)
            have g10 := put_cell h0 (D := D1) (by have := HDB1.out; omega)
            have g11 := put_cell h1 (D := D1) (by have := HDB1.out; omega)
            have g12 := put_cell h2 (D := D1) (by have := HDB1.out; omega)
            have g13 := put_cell h3 (D := D1) (by have := HDB1.out; omega)
            have g14 := put_cell h4 (D := D1) (by have := HDB1.out; omega)
            have hB1_ := below_putObj hB0 (show w.heap.size ≤ D1 by have := HDB1.out; omega) (.deferred none)
            have g00 := put_cell g10 (D := D0) (by have := HDB0.out; omega)
            have g01 := put_cell g11 (D := D0) (by have := HDB0.out; omega)
            have g02 := put_cell g12 (D := D0) (by have := HDB0.out; omega)
            have g03 := put_cell g13 (D := D0) (by have := HDB0.out; omega)
            have g04 := put_cell g14 (D := D0) (by have := HDB0.out; omega)
            have hB0_ := below_putObj hB1_ (show w.heap.size ≤ D0 by have := HDB0.out; omega) (.deferred none)
            unfold putY at g00 g01 g02 g03 g04
            refine ⟨by simp, .inl ⟨_, _, rfl, run_takeDeferred hK1_, ?_⟩⟩
            refine ⟨by simp, .inl ⟨_, _, rfl, run_takeDeferred hK0_, ?_⟩⟩
            exact ⟨_, by simp [results, Tryz.f11, go_sem, g00, g01, g02, g03, g04], congrArg Ending.returned HV.out.symm, hB0_⟩
end Go.Proofs.YtiffkbmcikiioaaGreat
