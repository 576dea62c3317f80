/-
  heal.Look of a pool's devices; of what isn't right. heal.Read.
  heal.Read.
-/
import Derived.Test.YtiffkbmcikiioaaGreatY43

/- heal.Look of a pool's devices; of what isn't right. heal.Read. -/
namespace Go.Proofs.YtiffkbmcikiioaaGreat
set_option maxRecDepth 100000
open Go.RowKit Go.Shelf Go.Maps M

section
variable {X : Nat → Prop} {B : Nat} {w : World} {x : Px} {l : List (Int × Int)} {ds : Nat → Dv} {aw : Nat → Bool} {K : Nat} {P : World → Prop} {p : Ptr} {z : Nat}
theorem look_ok (h : StX X B w x l ds aw K P) (hp : PR l x.sc p z) :
    Calls Tryz.prog 11 #[x.val, p.val] w fun e w' => e = .returned (lookV p.q (TT l x.sc p z (RW ds aw l p z)) (RW ds aw l p z) (nP p)) ∧ Below w.heap.size w w' :=
  look_core w x l p z _ (fun _ hW => right8_any (h.below hW)) h.meas hp (h.calls hp)
end
/-- The devices behind a block's mending at a place. -/
def fixP (l : List (Int × Int)) (aw : Nat → Bool) (p : Ptr) (z : Nat) (s : ByteArray) (ds : Nat → Dv) (j : Nat) : Nat → Dv := fixS ds aw (LL l p z j) (EE l p z s j)
theorem fixP_here (l : List (Int × Int)) (aw : Nat → Bool) (p : Ptr) (z : Nat) (s : ByteArray) (ds : Nat → Dv) (j : Nat) : hereB (fixP l aw p z s ds j) aw = hereB ds aw := fixS_here _ _ _ _
def unlP (l : List (Int × Int)) (aw : Nat → Bool) (p : Ptr) (z : Nat) (s : ByteArray) (ds : Nat → Dv) (j : Nat) : Nat := unlN (hereB ds aw) (LL l p z j) (EE l p z s j) (RW ds aw l p z j)
section
variable {l : List (Int × Int)} {sc : Int} {p : Ptr} {z : Nat} {n : Nat}
theorem PR.fix (hp : PR l sc p z) (hn : devsL l sc = (n : Int)) (aw : Nat → Bool) (s : ByteArray) (ds : Nat → Dv) {i : Nat} (hi : i < nP p) : RW (fixP l aw p z s ds i) aw l p z i = fixL (hereB ds aw) (LL l p z i) (EE l p z s i) (RW ds aw l p z i) :=
  fixS_raw ((hp.blk i hi).2.apartN hn) ds aw _
theorem PR.fixO (hp : PR l sc p z) (aw : Nat → Bool) (s : ByteArray) (ds : Nat → Dv) {i j : Nat} (hi : i < nP p) (hj : j < nP p) (hij : i ≠ j) : RW (fixP l aw p z s ds i) aw l p z j = RW ds aw l p z j :=
  fixS_other ds aw _ fun a b ha hb => hp.apart i j hi hj hij a b ha hb
theorem unlP_le (hp : PR l sc p z) (aw : Nat → Bool) (s : ByteArray) (ds : Nat → Dv) {j : Nat} (hj : j < nP p) : unlP l aw p z s ds j ≤ 32 := by
  have := unlN_le (hereB ds aw) (LL l p z j) (EE l p z s j) (RW ds aw l p z j)
  have h2 : (LL l p z j).length ≤ 32 := (hp.blk j hj).2.laid.few
  unfold unlP
  omega
/-- Behind a mending nothing is to be mended there. -/
theorem PR.unl_fix (hp : PR l sc p z) (hn : devsL l sc = (n : Int)) (aw : Nat → Bool) (s : ByteArray) (ds : Nat → Dv) {i : Nat} (hi : i < nP p) : unlP l aw p z s (fixP l aw p z s ds i) i = 0 := by
  unfold unlP
  rw [fixP_here, hp.fix hn aw s ds hi]
  exact unlN_fix _ _ _ _
theorem PR.unl_fixO (hp : PR l sc p z) (aw : Nat → Bool) (s : ByteArray) (ds : Nat → Dv) {i j : Nat} (hi : i < nP p) (hj : j < nP p) (hij : i ≠ j) : unlP l aw p z s (fixP l aw p z s ds i) j = unlP l aw p z s ds j := by
  unfold unlP
  rw [fixP_here, hp.fixO aw s ds hi hj hij]
end
section
variable {B : Nat} {w : World} {x : Px} {l : List (Int × Int)} {ds : Nat → Dv} {aw : Nat → Bool} {K : Nat} {P : World → Prop} {p : Ptr} {z : Nat}
theorem mendP_ok (h : St B w x l ds aw K P) (hp : PR l x.sc p z) {j : Nat} (hj : j < nP p) (s : ByteArray) (hs : s.size = z * 64) (hK : K < 3900000000) :
    Calls Tryz.prog 39 #[x.val, .agg #[.int .i64 (atP p j).1, .int .i64 (atP p j).2], .string s] w fun e w' =>
      e = .returned (.int .i64 (unlP l aw p z s ds j : Int)) ∧ St B w' x l (fixP l aw p z s ds j) aw (K + 32) P ∧ Below B w w' := by
  obtain ⟨e, hb⟩ := hp.blk j hj
  rw [e]
  exact hmend_ok h _ _ z hb s hs hK
end
end Go.Proofs.YtiffkbmcikiioaaGreat

/- heal.Read. -/
namespace Go.Proofs.YtiffkbmcikiioaaGreat
set_option maxRecDepth 100000
open Go.RowKit Go.Shelf Go.Maps M

/-- A block that was read, in a box. -/
structure CameC (b : Nat) (s : ByteArray) (i d n : Int) (w : World) : Prop where
  c0 : w.cell? ⟨b, 0, none⟩ = some (.string s)
  c1 : w.cell? ⟨b, 1, none⟩ = some (.int .i64 i)
  c2 : w.cell? ⟨b, 2, none⟩ = some (.int .i64 d)
  c3 : w.cell? ⟨b, 3, none⟩ = some (.int .i64 n)
  f0 : w.frozen? ⟨b, 0, none⟩ = false
  f1 : w.frozen? ⟨b, 1, none⟩ = false
  f2 : w.frozen? ⟨b, 2, none⟩ = false
  f3 : w.frozen? ⟨b, 3, none⟩ = false
theorem CameC.of {b : Nat} {s : ByteArray} {i d n : Int} {w W : World} (h : CameC b s i d n w) (e : W.heap[b]? = w.heap[b]?) : CameC b s i d n W := by
  have k : ∀ o, W.cell? ⟨b, o, none⟩ = w.cell? ⟨b, o, none⟩ := fun o => World.cell?_of_block (w := w) (a := ⟨b, o, none⟩) e
  have m : ∀ o, W.frozen? ⟨b, o, none⟩ = w.frozen? ⟨b, o, none⟩ := fun o => frozen_of_block e
  exact ⟨(k _).trans h.c0, (k _).trans h.c1, (k _).trans h.c2, (k _).trans h.c3, (m _).trans h.f0, (m _).trans h.f1, (m _).trans h.f2, (m _).trans h.f3⟩
theorem CameC.new (w : World) (s : ByteArray) (i d n : Int) (B : Nat) (hB : B ≤ w.heap.size) : New B (w.alloc (.cells #[.string s, .int .i64 i, .int .i64 d, .int .i64 n] 45)) (CameC w.heap.size s i d n) :=
  (New.block w _ B hB).mono fun w' e => ⟨by simp [World.cell?, e], by simp [World.cell?, e], by simp [World.cell?, e], by simp [World.cell?, e], by simp [World.frozen?, e], by simp [World.frozen?, e], by simp [World.frozen?, e], by simp [World.frozen?, e]⟩
theorem CameC.set3 {b : Nat} {s : ByteArray} {i d n : Int} {w : World} (h : CameC b s i d n w) (m : Int) : CameC b s i d m (w.setCell ⟨b, 3, none⟩ (.int .i64 m)) := by
  obtain ⟨c0, c1, c2, c3, f0, f1, f2, f3⟩ := h
  exact ⟨by simp [World.cell?_setCell_other, c0], by simp [World.cell?_setCell_other, c1], by simp [World.cell?_setCell_other, c2], World.cell?_setCell_same _ _ _ c3, by simp only [World.frozen?_setCell]; exact f0, by simp only [World.frozen?_setCell]; exact f1, by simp only [World.frozen?_setCell]; exact f2, by simp only [World.frozen?_setCell]; exact f3⟩
/-- All of it is written. -/
def putC (w : World) (b : Nat) (s : ByteArray) (i d n : Int) : World := (((w.setCell ⟨b, 0, none⟩ (.string s)).setCell ⟨b, 1, none⟩ (.int .i64 i)).setCell ⟨b, 2, none⟩ (.int .i64 d)).setCell ⟨b, 3, none⟩ (.int .i64 n)
theorem CameC.put {b : Nat} {s' : ByteArray} {i' d' n' : Int} {w : World} (h : CameC b s' i' d' n' w) (s : ByteArray) (i d n : Int) : CameC b s i d n (putC w b s i d n) := by
  obtain ⟨c0, c1, c2, c3, f0, f1, f2, f3⟩ := h
  unfold putC
  exact ⟨by simp [World.cell?_setCell_other, World.cell?_setCell_same', c0], by simp [World.cell?_setCell_other, World.cell?_setCell_same', c1], by simp [World.cell?_setCell_other, World.cell?_setCell_same', c2], by simp [World.cell?_setCell_other, World.cell?_setCell_same', c3], by simp only [World.frozen?_setCell]; exact f0, by simp only [World.frozen?_setCell]; exact f1, by simp only [World.frozen?_setCell]; exact f2, by simp only [World.frozen?_setCell]; exact f3⟩
theorem putC_turn (w : World) (b : Nat) (s : ByteArray) (i d n : Int) : Turn (fun k => k = b) w (putC w b s i d n) := by
  unfold putC
  have h0 : Turn (fun k => k = b) w w := Turn.refl _ w
  exact (((h0.setCell (p := ⟨b, 0, none⟩) (.inl rfl) _).setCell (p := ⟨b, 1, none⟩) (.inl rfl) _).setCell (p := ⟨b, 2, none⟩) (.inl rfl) _).setCell (p := ⟨b, 3, none⟩) (.inl rfl) _
theorem BoxPt.new (w : World) (p : Ptr) (B : Nat) (hB : B ≤ w.heap.size) : New B (w.alloc (.cells p.cells 31)) (fun W => Box W w.heap.size p) := fun w' hz hb => by
  have e := (New.block w (.cells p.cells 31) B hB) w' hz hb
  unfold Ptr.cells at e
  have hlt : w.heap.size < w'.heap.size := (Array.getElem?_eq_some_iff.1 e).1
  exact ⟨by simp [World.cell?, e], by simp [World.cell?, e], by simp [World.cell?, e], by simp [World.cell?, e], by simp [World.cell?, e], by simp [World.cell?, e], by simp [World.cell?, e], by simp [World.cell?, e], by simp [World.cell?, e], by simp [World.cell?, e], by simp [World.cell?, e], by simp [World.cell?, e], hlt⟩
section
variable {B : Nat} {w : World} {x : Px} {l : List (Int × Int)} {ds : Nat → Dv} {aw : Nat → Bool} {K : Nat} {P : World → Prop}
/-- The boxes of Read and Scrub. -/
theorem boxesR (h : St B w x l ds aw K P) (p : Ptr) :
    ∃ W0, ((w.alloc (.cells #[.slice x.ga x.gn x.gc, .int .i64 x.sc, .slice (some ⟨x.lb, 0, none⟩) x.n x.n, .slice (some ⟨x.ab, 0, none⟩) x.n x.n] 37)).alloc (.cells p.cells 31)).alloc (.cells #[.string ⟨#[]⟩, .int .i64 0, .int .i64 0, .int .i64 0] 45) = W0 ∧
      St B W0 x l ds aw K (fun W => PB x l (w.heap.size + 2) P W ∧ (BoxX x w.heap.size W ∧ Box W (w.heap.size + 1) p ∧ CameC (w.heap.size + 2) ⟨#[]⟩ 0 0 0 W)) ∧ Below w.heap.size w W0 := by
  have b1 := boxed w (.cells #[.slice x.ga x.gn x.gc, .int .i64 x.sc, .slice (some ⟨x.lb, 0, none⟩) x.n x.n, .slice (some ⟨x.ab, 0, none⟩) x.n x.n] 37)
  have h1 := BoxX.new w x w.heap.size (Nat.le_refl _) 37
  have s1 : (w.alloc (.cells #[.slice x.ga x.gn x.gc, .int .i64 x.sc, .slice (some ⟨x.lb, 0, none⟩) x.n x.n, .slice (some ⟨x.ab, 0, none⟩) x.n x.n] 37)).heap.size = w.heap.size + 1 := World.size_alloc _ _
  obtain ⟨w1, hw1⟩ : ∃ w1, w.alloc (.cells #[.slice x.ga x.gn x.gc, .int .i64 x.sc, .slice (some ⟨x.lb, 0, none⟩) x.n x.n, .slice (some ⟨x.ab, 0, none⟩) x.n x.n] 37) = w1 := ⟨_, rfl⟩
  rw [hw1] at b1 h1 s1 ⊢
  have b2 := boxed w1 (.cells p.cells 31)
  have h2 := BoxPt.new w1 p w.heap.size b1.size
  have s2 : (w1.alloc (.cells p.cells 31)).heap.size = w.heap.size + 2 := by rw [World.size_alloc, s1]
  obtain ⟨w2, hw2⟩ : ∃ w2, w1.alloc (.cells p.cells 31) = w2 := ⟨_, rfl⟩
  rw [hw2] at b2 h2 s2 ⊢
  rw [s1] at h2
  have b3 := boxed w2 (.cells #[.string ⟨#[]⟩, .int .i64 0, .int .i64 0, .int .i64 0] 45)
  have h3 := CameC.new w2 ⟨#[]⟩ 0 0 0 w.heap.size (by omega)
  rw [s2] at h3
  have b123 := next (next b1 b2) b3
  exact ⟨_, rfl, h.mine b123 _ (by omega) (((h1.next b2).next b3).and ((h2.next b3).and h3)), b123⟩
end

section
variable {B : Nat} {w : World} {x : Px} {l : List (Int × Int)} {ds : Nat → Dv} {aw : Nat → Bool} {K : Nat} {P : World → Prop} {p : Ptr} {z : Nat}
def errV (R : Nat → List ByteArray) (n : Nat) : Int := if lostTo R n then 6 else 4
def noCame : Value := .agg #[.string ⟨#[]⟩, .int .i64 0, .int .i64 0, .int .i64 0]
theorem lookV_none {q : Q} {T : Nat → List (Int × ByteArray)} {R : Nat → List ByteArray} {n : Nat} (h : lookTo q T n = none) : lookV q T R n = .tuple #[noCame, .int .i64 (errV R n)] := by
  unfold lookV
  rw [h]
  rfl
theorem lookV_some {q : Q} {T : Nat → List (Int × ByteArray)} {R : Nat → List ByteArray} {n i : Nat} {d : Int} {s : ByteArray} (h : lookTo q T n = some (i, d, s)) : lookV q T R n = .tuple #[.agg #[.string s, .int .i64 (i : Int), .int .i64 d, .int .i64 0], .int .i64 0] := by
  unfold lookV
  rw [h]
theorem errV_ne (R : Nat → List ByteArray) (n : Nat) : (errV R n != 0) = true ∧ (errV R n == 0) = false ∧ I64 (errV R n) := by
  unfold errV
  cases lostTo R n <;> exact ⟨rfl, rfl, by decide, by decide⟩
/-- Nothing is found: nothing is written. -/
theorem hread_no (h : St B w x l ds aw K P) (hp : PR l x.sc p z) (hno : lookTo p.q (TT l x.sc p z (RW ds aw l p z)) (nP p) = none) :
    Calls Tryz.prog 12 #[x.val, p.val] w fun e w' => e = .returned (.tuple #[noCame, .int .i64 (errV (RW ds aw l p z) (nP p))]) ∧ Below w.heap.size w w' := by
  obtain ⟨W0, hW0, H0, B0⟩ := boxesR h p
  have HL := Lib.hid (look_ok H0 hp)
  rw [lookV_none hno] at HL
  have HW0 := Lib.hid hW0
  have HB0 := Lib.hid B0
  obtain ⟨er, her⟩ : ∃ er, errV (RW ds aw l p z) (nP p) = er := ⟨_, rfl⟩
  obtain ⟨d1, d2, d3⟩ := errV_ne (RW ds aw l p z) (nP p)
  rw [her] at HL d1 d2 d3 ⊢
  obtain ⟨_, ⟨x0, x1, x2, x3⟩, ⟨p0, p1, p2, p3, p4, p5, p6, p7, p8, p9, p10, p11, plt⟩, hc⟩ := H0.out
  have HC := Lib.hid hc
  have hlt : w.heap.size + 2 < W0.heap.size := World.block_lt_of_cell? W0 _ hc.c0
  clear h H0 hp hno her hW0 B0 hc plt d3
  unfold noCame
  simp only [Ptr.val, Ptr.cells] at HL HW0 ⊢
  unfold Px.val noCame at HL
  unfold Px.val
  go_enter Tryz.func12, Tryz.ntmps12
  go_wp2_with (first | (rw [HW0.out]; fail))
  rw [HW0.out]
  go_wp2_with fail
  refine HL.out.mono ?_
  rintro e w4 ⟨rfl, b4⟩
  have hbx := boxed w4 (.cells #[.string ⟨#[]⟩, .int .i64 0, .int .i64 0, .int .i64 0] 45)
  have hc4 : CameC (w.heap.size + 2) ⟨#[]⟩ 0 0 0 (w4.alloc (.cells #[.string ⟨#[]⟩, .int .i64 0, .int .i64 0, .int .i64 0] 45)) := (HC.out.of (b4.block _ hlt)).of (hbx.block _ (Nat.lt_of_lt_of_le hlt b4.size))
  have HC4 := Lib.hid hc4
  have HB4 := Lib.hid (next (next HB0.out b4) hbx)
  obtain ⟨c0, c1, c2, c3, f0, f1, f2, f3⟩ := hc4
  clear hbx
  clear x0 x1 x2 x3 p0 p1 p2 p3 p4 p5 p6 p7 p8 p9 p10 p11 b4 HL
  go_wp2
  have hc9 := HC4.out.put ⟨#[]⟩ 0 0 0
  obtain ⟨g0, g1, g2, g3, _, _, _, _⟩ := hc9
  unfold putC at g0 g1 g2 g3
  refine bodyPost_ret (v := .tuple #[.agg #[.string ⟨#[]⟩, .int .i64 0, .int .i64 0, .int .i64 0], .int .i64 er]) ?_ rfl ⟨rfl, ?_⟩
  · simp [results, Tryz.results12, go_sem, g0, g1, g2, g3]
  exact HB4.out.trans ((putC_turn (w4.alloc (.cells #[.string ⟨#[]⟩, .int .i64 0, .int .i64 0, .int .i64 0] 45)) (w.heap.size + 2) ⟨#[]⟩ 0 0 0).below (fun k hk => by omega) (by have := HB4.out.size; omega))
end
end Go.Proofs.YtiffkbmcikiioaaGreat
