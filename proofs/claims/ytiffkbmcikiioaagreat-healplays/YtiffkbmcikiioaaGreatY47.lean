/-
  polderlaw10.laid: devices on which a block was written.
  A slice of hits, as it came.
-/
import Derived.Test.YtiffkbmcikiioaaGreatY40
import Derived.Test.YtiffkbmcikiioaaGreatY42
import Derived.Test.YtiffkbmcikiioaaGreatY44
import Derived.Test.YtiffkbmcikiioaaGreatY35

/- polderlaw10.laid: devices on which a block was written. -/
namespace Go.Proofs.YtiffkbmcikiioaaGreat
set_option maxRecDepth 100000
open Go.RowKit Go.Shelf Go.Maps M

/-- The pointer at a text's block. -/
def lqP (p : Ptr) (s : ByteArray) : Ptr := { p with sz := ((s.size / 64 : Nat) : Int), q := sumB s }
theorem lqP_ok {p : Ptr} (h : p.Ok) {s : ByteArray} (hs : s.size ≤ maxLen) : (lqP p s).Ok := by
  obtain ⟨h0, h1, h2, h3, _, h5, h6, _⟩ := h
  unfold maxLen at hs
  exact ⟨h0, h1, h2, h3, ⟨by show (-9223372036854775808 : Int) ≤ ((s.size / 64 : Nat) : Int); omega, by show ((s.size / 64 : Nat) : Int) ≤ 9223372036854775807; omega⟩, h5, h6, sumQ_ok _ _ zeroQ_ok⟩
/-- Is a block laid? -/
def laidB (l : List (Int × Int)) (sc : Int) (p : Ptr) (s : ByteArray) : Bool := decide (s.size ≤ 1000) && decide (s.size % 64 = 0) && decide (l.length ≤ 100) && decide (sc ≤ 200) && rightP l sc (lqP p s)
/-- The devices behind the writing at so many places. -/
def wpS (l : List (Int × Int)) (sc : Int) (p : Ptr) (z : Nat) (s : ByteArray) : Nat → Nat → Dv
  | 0 => fun _ => zeroDv sc
  | j + 1 => wrTo (wpS l sc p z s j) (fun _ => false) (LL l p z j) (EE l p z s j) (LL l p z j).length
theorem wpS_lost (l : List (Int × Int)) (sc : Int) (p : Ptr) (z : Nat) (s : ByteArray) : ∀ j i, (wpS l sc p z s j i).lost = false := by
  intro j
  induction j with
  | zero => intro i; rfl
  | succ j ih => intro i; rw [wpS, wrTo_lost, ih]
/-- Some of them lost. -/
def loS (nl : Nat) (fl : Nat → Bool) (D : Nat → Dv) (j i : Nat) : Dv := if i < j ∧ saysB nl fl i = true then lostD (D i) else D i
theorem loS_zero (nl : Nat) (fl : Nat → Bool) (D : Nat → Dv) : loS nl fl D 0 = D := by funext i; simp [loS]
theorem loS_at (nl : Nat) (fl : Nat → Bool) (D : Nat → Dv) (j : Nat) : loS nl fl D j j = D j := by simp [loS]
theorem loS_yes (nl : Nat) (fl : Nat → Bool) (D : Nat → Dv) (j : Nat) (h : saysB nl fl j = true) : upd (loS nl fl D j) j (lostD (D j)) = loS nl fl D (j + 1) := by
  funext i
  unfold upd loS
  by_cases e : i = j
  · subst e
    rw [if_pos rfl, if_pos ⟨by omega, h⟩]
  · rw [if_neg e]
    by_cases h1 : i < j ∧ saysB nl fl i = true
    · rw [if_pos h1, if_pos ⟨by omega, h1.2⟩]
    · rw [if_neg h1, if_neg (fun h2 => h1 ⟨by omega, h2.2⟩)]
theorem loS_no (nl : Nat) (fl : Nat → Bool) (D : Nat → Dv) (j : Nat) (h : saysB nl fl j = false) : loS nl fl D j = loS nl fl D (j + 1) := by
  funext i
  unfold loS
  by_cases e : i = j
  · subst e
    rw [if_neg (by omega), if_neg (by rw [h]; simp)]
  · by_cases h1 : i < j ∧ saysB nl fl i = true
    · rw [if_pos h1, if_pos ⟨by omega, h1.2⟩]
    · rw [if_neg h1, if_neg (fun h2 => h1 ⟨by omega, h2.2⟩)]
theorem hereB_lo {na nl : Nat} {fa fl : Nat → Bool} {D : Nat → Dv} (hD : ∀ i, (D i).lost = false) {n i : Nat} (hi : i < n) : hereB (loS nl fl D n) (awTo na fa n) i = (!saysB na fa i && !saysB nl fl i) := by
  unfold hereB loS awTo
  cases h : saysB nl fl i <;> simp [hi, hD, lostD]

theorem heap_cell {W : World} {b i : Nat} {cs : Array Value} {ty : TypeId} {v : Value} (h : W.heap[b]? = some (.cells cs ty)) (hv : cs[i]? = some v) : W.cell? ⟨b, i, none⟩ = some v := by
  simp [World.cell?, h, hv]
theorem heap_frozen {W : World} {b i : Nat} {cs : Array Value} {ty : TypeId} (h : W.heap[b]? = some (.cells cs ty)) : W.frozen? ⟨b, i, none⟩ = false := by
  simp [World.frozen?, h]
/-- The blocks of laid. -/
structure LB (b : Nat) (a : Option Addr) (n c : Nat) (sc : Int) (q : Ptr) (W : World) : Prop where
  g : W.heap[b]? = some (.cells #[.slice a n c, .int .i64 sc] 24)
  p : W.heap[b + 1]? = some (.cells q.cells 31)
  d : W.heap[b + 2]? = some (.cells #[.slice none 0 0, .int .i64 0, .slice none 0 0, .slice none 0 0] 37)
  r : W.heap[b + 3]? = some (.cells #[.int .i64 0, .int .i64 0, .int .i64 0, .int .i64 0, .bool false, .int .i64 0, .int .i64 0, .int .i64 0, .int .u64 0, .int .u64 0, .int .u64 0, .int .u64 0] 31)
theorem LB.lt {b : Nat} {a : Option Addr} {n c : Nat} {sc : Int} {q : Ptr} {W : World} (h : LB b a n c sc q W) : b + 3 < W.heap.size := (Array.getElem?_eq_some_iff.1 h.r).1
theorem LB.below {b B : Nat} {a : Option Addr} {n c : Nat} {sc : Int} {q : Ptr} {W W' : World} (h : LB b a n c sc q W) (hb : Below B W W') (hB : b + 4 ≤ B) : LB b a n c sc q W' :=
  ⟨(hb.block _ (by omega)).trans h.g, (hb.block _ (by omega)).trans h.p, (hb.block _ (by omega)).trans h.d, (hb.block _ (by omega)).trans h.r⟩
/-- What is read of them, and may be written. -/
structure LF (b : Nat) (a : Option Addr) (n c : Nat) (sc : Int) (q : Ptr) (W : World) : Prop where
  g0 : W.cell? ⟨b, 0, none⟩ = some (.slice a n c)
  g1 : W.cell? ⟨b, 1, none⟩ = some (.int .i64 sc)
  p0 : W.cell? ⟨b + 1, 0, none⟩ = some (.int .i64 q.ag)
  p1 : W.cell? ⟨b + 1, 1, none⟩ = some (.int .i64 q.aa)
  p2 : W.cell? ⟨b + 1, 2, none⟩ = some (.int .i64 q.bg)
  p3 : W.cell? ⟨b + 1, 3, none⟩ = some (.int .i64 q.ba)
  p4 : W.cell? ⟨b + 1, 4, none⟩ = some (.bool q.two)
  p5 : W.cell? ⟨b + 1, 5, none⟩ = some (.int .i64 q.sz)
  p6 : W.cell? ⟨b + 1, 6, none⟩ = some (.int .i64 q.lv)
  p7 : W.cell? ⟨b + 1, 7, none⟩ = some (.int .i64 q.bi)
  p8 : W.cell? ⟨b + 1, 8, none⟩ = some (.int .u64 q.q.a)
  p9 : W.cell? ⟨b + 1, 9, none⟩ = some (.int .u64 q.q.b)
  p10 : W.cell? ⟨b + 1, 10, none⟩ = some (.int .u64 q.q.c)
  p11 : W.cell? ⟨b + 1, 11, none⟩ = some (.int .u64 q.q.d)
  f5 : W.frozen? ⟨b + 1, 5, none⟩ = false
  f8 : W.frozen? ⟨b + 1, 8, none⟩ = false
  f9 : W.frozen? ⟨b + 1, 9, none⟩ = false
  f10 : W.frozen? ⟨b + 1, 10, none⟩ = false
  f11 : W.frozen? ⟨b + 1, 11, none⟩ = false
theorem LB.f {b : Nat} {a : Option Addr} {n c : Nat} {sc : Int} {q : Ptr} {W : World} (h : LB b a n c sc q W) : LF b a n c sc q W :=
  ⟨heap_cell h.g rfl, heap_cell h.g rfl, heap_cell h.p rfl, heap_cell h.p rfl, heap_cell h.p rfl, heap_cell h.p rfl, heap_cell h.p rfl, heap_cell h.p rfl, heap_cell h.p rfl, heap_cell h.p rfl, heap_cell h.p rfl, heap_cell h.p rfl, heap_cell h.p rfl, heap_cell h.p rfl, heap_frozen h.p, heap_frozen h.p, heap_frozen h.p, heap_frozen h.p, heap_frozen h.p⟩
theorem LB.box {b : Nat} {a : Option Addr} {n c : Nat} {sc : Int} {q : Ptr} {W : World} (h : LB b a n c sc q W) : Box W (b + 1) q :=
  ⟨h.f.p0, h.f.p1, h.f.p2, h.f.p3, h.f.p4, h.f.p5, h.f.p6, h.f.p7, h.f.p8, h.f.p9, h.f.p10, h.f.p11, by have := h.lt; omega⟩
/-- The size and the sum are written. -/
theorem LB.size {b : Nat} {a : Option Addr} {n c : Nat} {sc : Int} {q : Ptr} {W : World} (h : LB b a n c sc q W) (z : Int) : LB b a n c sc { q with sz := z } (W.setCell ⟨b + 1, 5, none⟩ (.int .i64 z)) := by
  obtain ⟨hg, hp, hd, hr⟩ := h
  refine ⟨?_, ?_, ?_, ?_⟩
  · rw [Below.heap_setCell _ _ _ _ (by show b ≠ b + 1; omega)]; exact hg
  · simp only [World.setCell, Array.getElem?_modify, hp, Ptr.cells]
    simp
  · rw [Below.heap_setCell _ _ _ _ (by show b + 2 ≠ b + 1; omega)]; exact hd
  · rw [Below.heap_setCell _ _ _ _ (by show b + 3 ≠ b + 1; omega)]; exact hr
def putS (W : World) (b : Nat) (r : Q) : World := (((W.setCell ⟨b + 1, 8, none⟩ (.int .u64 r.a)).setCell ⟨b + 1, 9, none⟩ (.int .u64 r.b)).setCell ⟨b + 1, 10, none⟩ (.int .u64 r.c)).setCell ⟨b + 1, 11, none⟩ (.int .u64 r.d)
theorem putS_turn (W : World) (b : Nat) (r : Q) : Turn (fun k => k = b + 1) W (putS W b r) := by
  unfold putS
  have h0 : Turn (fun k => k = b + 1) W W := Turn.refl _ W
  exact (((h0.setCell (p := ⟨b + 1, 8, none⟩) (.inl rfl) _).setCell (p := ⟨b + 1, 9, none⟩) (.inl rfl) _).setCell (p := ⟨b + 1, 10, none⟩) (.inl rfl) _).setCell (p := ⟨b + 1, 11, none⟩) (.inl rfl) _
theorem LB.sum {b : Nat} {a : Option Addr} {n c : Nat} {sc : Int} {q : Ptr} {W : World} (h : LB b a n c sc q W) (r : Q) : LB b a n c sc { q with q := r } (putS W b r) := by
  obtain ⟨hg, hp, hd, hr⟩ := h
  have ht := putS_turn W b r
  have lt : b + 3 < W.heap.size := (Array.getElem?_eq_some_iff.1 hr).1
  refine ⟨?_, ?_, ?_, ?_⟩
  · rw [ht.block b (by omega) (by omega)]; exact hg
  · unfold putS
    simp only [World.setCell, Array.getElem?_modify, hp, Ptr.cells]
    simp
  · rw [ht.block (b + 2) (by omega) (by omega)]; exact hd
  · rw [ht.block (b + 3) (by omega) (by omega)]; exact hr
theorem LB.start {w : World} {a : Option Addr} {n c : Nat} {sc : Int} (p : Ptr) :
    ∃ W0, (((w.alloc (.cells #[.slice a n c, .int .i64 sc] 24)).alloc (.cells p.cells 31)).alloc (.cells #[.slice none 0 0, .int .i64 0, .slice none 0 0, .slice none 0 0] 37)).alloc (.cells #[.int .i64 0, .int .i64 0, .int .i64 0, .int .i64 0, .bool false, .int .i64 0, .int .i64 0, .int .i64 0, .int .u64 0, .int .u64 0, .int .u64 0, .int .u64 0] 31) = W0 ∧ LB w.heap.size a n c sc p W0 ∧ Below w.heap.size w W0 ∧ W0.heap.size = w.heap.size + 4 := by
  have b1 := boxed w (.cells #[.slice a n c, .int .i64 sc] 24)
  have e1 := heap_alloc_new w (.cells #[.slice a n c, .int .i64 sc] 24)
  have s1 : (w.alloc (.cells #[.slice a n c, .int .i64 sc] 24)).heap.size = w.heap.size + 1 := World.size_alloc _ _
  obtain ⟨w1, h1⟩ : ∃ w1, w.alloc (.cells #[.slice a n c, .int .i64 sc] 24) = w1 := ⟨_, rfl⟩
  rw [h1] at b1 e1 s1 ⊢
  have b2 := boxed w1 (.cells p.cells 31)
  have e2 := heap_alloc_new w1 (.cells p.cells 31)
  have s2 : (w1.alloc (.cells p.cells 31)).heap.size = w1.heap.size + 1 := World.size_alloc _ _
  obtain ⟨w2, h2⟩ : ∃ w2, w1.alloc (.cells p.cells 31) = w2 := ⟨_, rfl⟩
  rw [h2] at b2 e2 s2 ⊢
  have b3 := boxed w2 (.cells #[.slice none 0 0, .int .i64 0, .slice none 0 0, .slice none 0 0] 37)
  have e3 := heap_alloc_new w2 (.cells #[.slice none 0 0, .int .i64 0, .slice none 0 0, .slice none 0 0] 37)
  have s3 : (w2.alloc (.cells #[.slice none 0 0, .int .i64 0, .slice none 0 0, .slice none 0 0] 37)).heap.size = w2.heap.size + 1 := World.size_alloc _ _
  obtain ⟨w3, h3⟩ : ∃ w3, w2.alloc (.cells #[.slice none 0 0, .int .i64 0, .slice none 0 0, .slice none 0 0] 37) = w3 := ⟨_, rfl⟩
  rw [h3] at b3 e3 s3 ⊢
  have b4 := boxed w3 (.cells #[.int .i64 0, .int .i64 0, .int .i64 0, .int .i64 0, .bool false, .int .i64 0, .int .i64 0, .int .i64 0, .int .u64 0, .int .u64 0, .int .u64 0, .int .u64 0] 31)
  have e4 := heap_alloc_new w3 (.cells #[.int .i64 0, .int .i64 0, .int .i64 0, .int .i64 0, .bool false, .int .i64 0, .int .i64 0, .int .i64 0, .int .u64 0, .int .u64 0, .int .u64 0, .int .u64 0] 31)
  have s4 : (w3.alloc (.cells #[.int .i64 0, .int .i64 0, .int .i64 0, .int .i64 0, .bool false, .int .i64 0, .int .i64 0, .int .i64 0, .int .u64 0, .int .u64 0, .int .u64 0, .int .u64 0] 31)).heap.size = w3.heap.size + 1 := World.size_alloc _ _
  rw [s1] at e2
  rw [s2, s1] at e3
  rw [s3, s2, s1] at e4
  have b34 := next b3 b4
  have b234 := next b2 b34
  refine ⟨_, rfl, ⟨?_, ?_, ?_, e4⟩, next b1 b234, by omega⟩
  · rw [b234.block _ (by omega)]; exact e1
  · rw [b34.block _ (by omega)]; exact e2
  · rw [b4.block _ (by omega)]; exact e3
/-- The results are written. -/
def putV (W : World) (b : Nat) (v0 v1 v2 v3 : Value) : World := (((W.setCell ⟨b + 2, 0, none⟩ v0).setCell ⟨b + 2, 1, none⟩ v1).setCell ⟨b + 2, 2, none⟩ v2).setCell ⟨b + 2, 3, none⟩ v3
def putW (W : World) (b : Nat) (u0 u1 u2 u3 u4 u5 u6 u7 u8 u9 u10 u11 : Value) : World := (((((((((((W.setCell ⟨b + 3, 0, none⟩ u0).setCell ⟨b + 3, 1, none⟩ u1).setCell ⟨b + 3, 2, none⟩ u2).setCell ⟨b + 3, 3, none⟩ u3).setCell ⟨b + 3, 4, none⟩ u4).setCell ⟨b + 3, 5, none⟩ u5).setCell ⟨b + 3, 6, none⟩ u6).setCell ⟨b + 3, 7, none⟩ u7).setCell ⟨b + 3, 8, none⟩ u8).setCell ⟨b + 3, 9, none⟩ u9).setCell ⟨b + 3, 10, none⟩ u10).setCell ⟨b + 3, 11, none⟩ u11
theorem putV_turn (W : World) (b : Nat) (v0 v1 v2 v3 : Value) : Turn (fun k => k = b + 2) W (putV W b v0 v1 v2 v3) := turn4 W (b + 2) v0 v1 v2 v3
theorem putW_turn (W : World) (b : Nat) (u0 u1 u2 u3 u4 u5 u6 u7 u8 u9 u10 u11 : Value) : Turn (fun k => k = b + 3) W (putW W b u0 u1 u2 u3 u4 u5 u6 u7 u8 u9 u10 u11) := by
  unfold putW
  have h0 : Turn (fun k => k = b + 3) W W := Turn.refl _ W
  exact (((((((((((h0.setCell (p := ⟨b + 3, 0, none⟩) (.inl rfl) _).setCell (p := ⟨b + 3, 1, none⟩) (.inl rfl) _).setCell (p := ⟨b + 3, 2, none⟩) (.inl rfl) _).setCell (p := ⟨b + 3, 3, none⟩) (.inl rfl) _).setCell (p := ⟨b + 3, 4, none⟩) (.inl rfl) _).setCell (p := ⟨b + 3, 5, none⟩) (.inl rfl) _).setCell (p := ⟨b + 3, 6, none⟩) (.inl rfl) _).setCell (p := ⟨b + 3, 7, none⟩) (.inl rfl) _).setCell (p := ⟨b + 3, 8, none⟩) (.inl rfl) _).setCell (p := ⟨b + 3, 9, none⟩) (.inl rfl) _).setCell (p := ⟨b + 3, 10, none⟩) (.inl rfl) _).setCell (p := ⟨b + 3, 11, none⟩) (.inl rfl) _
theorem LB.out {b : Nat} {a : Option Addr} {n c : Nat} {sc : Int} {q : Ptr} {W : World} (h : LB b a n c sc q W) (v0 v1 v2 v3 u0 u1 u2 u3 u4 u5 u6 u7 u8 u9 u10 u11 : Value) :
    (putW (putV W b v0 v1 v2 v3) b u0 u1 u2 u3 u4 u5 u6 u7 u8 u9 u10 u11).heap[b + 2]? = some (.cells #[v0, v1, v2, v3] 37) ∧ (putW (putV W b v0 v1 v2 v3) b u0 u1 u2 u3 u4 u5 u6 u7 u8 u9 u10 u11).heap[b + 3]? = some (.cells #[u0, u1, u2, u3, u4, u5, u6, u7, u8, u9, u10, u11] 31) := by
  have lt := h.lt
  have t1 := putV_turn W b v0 v1 v2 v3
  have e1 : (putV W b v0 v1 v2 v3).heap[b + 2]? = some (.cells #[v0, v1, v2, v3] 37) := sets4 v0 v1 v2 v3 h.d
  have e2 : (putV W b v0 v1 v2 v3).heap[b + 3]? = _ := (t1.block (b + 3) lt (by omega)).trans h.r
  have t2 := putW_turn (putV W b v0 v1 v2 v3) b u0 u1 u2 u3 u4 u5 u6 u7 u8 u9 u10 u11
  refine ⟨(t2.block (b + 2) (by have := t1.size; omega) (by omega)).trans e1, ?_⟩
  unfold putW
  simp only [World.setCell, Array.getElem?_modify, e2]
  simp
end Go.Proofs.YtiffkbmcikiioaaGreat

/- A slice of hits, as it came. -/
namespace Go.Proofs.YtiffkbmcikiioaaGreat
set_option maxRecDepth 100000
open Go.RowKit Go.Maps M

theorem u8_of8 {n : Int} (h : (Lit.int .u8 n).wf = true) : ∃ c : UInt8, n = (c.toNat : Int) := by
  obtain ⟨h0, h1⟩ := bounds_u8 h
  refine ⟨UInt8.ofNat n.toNat, ?_⟩
  rw [UInt8.toNat_ofNat_of_lt' (by simp [UInt8.size]; omega)]
  omega

/-- A byte of a device's sector that is spoilt. -/
structure HitV where
  dev : Int
  at_ : Int
  pl : Int
  by_ : UInt8
structure IsHit (W : World) (g o : Nat) (x : HitV) : Prop where
  lt : g < W.heap.size
  c0 : W.cell? ⟨g, o, none⟩ = some (.int .i64 x.dev)
  c1 : W.cell? ⟨g, o + 1, none⟩ = some (.int .i64 x.at_)
  c2 : W.cell? ⟨g, o + 2, none⟩ = some (.int .i64 x.pl)
  c3 : W.cell? ⟨g, o + 3, none⟩ = some (.int .u8 (x.by_.toNat : Int))
  b0 : I64 x.dev
def Hits (W : World) (a : Option Addr) (n : Nat) (f : Nat → HitV) : Prop := n ≤ maxLen ∧ ∀ i, i < n → ∃ g o, a = some ⟨g, o, none⟩ ∧ IsHit W g (o + i * 4) (f i)
theorem Hits.below {W W' : World} {a : Option Addr} {n : Nat} {f : Nat → HitV} (h : Hits W a n f) (hb : Below W.heap.size W W') : Hits W' a n f := ⟨h.1, fun i hi => by
  obtain ⟨g, o, ha, ⟨lt, c0, c1, c2, c3, b0⟩⟩ := h.2 i hi
  exact ⟨g, o, ha, ⟨Nat.lt_of_lt_of_le lt hb.size, (hb.cell (p := ⟨g, o + i * 4, none⟩) lt).trans c0, (hb.cell (p := ⟨g, o + i * 4 + 1, none⟩) lt).trans c1, (hb.cell (p := ⟨g, o + i * 4 + 2, none⟩) lt).trans c2, (hb.cell (p := ⟨g, o + i * 4 + 3, none⟩) lt).trans c3, b0⟩⟩⟩
theorem open_hits {H : Type} {enc : TypeId × Value → H} {W : World} {a : Option Addr} {len cap : Nat} {d : DataW H} {ps : List MemPlace}
    (h : DataW.Trod enc Tryz.prog W 0 (fun _ => true) true 33 (.slice a len cap) d ps) : ∃ f : Nat → HitV, Hits W a len f := by
  obtain ⟨fuel, hf⟩ := h
  have hC : Tryz.prog.cellsOf 41 = 4 := by kernel_rfl
  obtain ⟨hl, hi⟩ := slice_elems (P := Tryz.prog) Tryz.underlying33 (by rw [hC]; omega) hf
  have hone : ∀ i, i < len → ∃ (x : HitV) (g o : Nat), a = some ⟨g, o, none⟩ ∧ IsHit W g (o + i * 4) x := fun i hlt => by
    obtain ⟨b, off, cs, n, y, rfl, hb, hlen, hcell, ht⟩ := hi i hlt
    rw [hC] at hlen hcell
    obtain ⟨xs, n', _, _, _, hxl, hfld⟩ := DataW.trod_struct Tryz.underlying41 ht
    match cs, hlen with
    | [v0, v1, v2, v3], _ =>
      have hx : xs.length = 4 := hxl
      match xs, hx with
      | [y0, y1, y2, y3], _ =>
        have k5 : Tryz.prog.cellsOf 5 = 1 := by kernel_rfl
        have k3 : Tryz.prog.cellsOf 3 = 1 := by kernel_rfl
        have e0 : DataW.trod enc Tryz.prog W 0 (fun _ => true) true n' 3 (([v0, v1, v2, v3].drop 0).take (Tryz.prog.cellsOf 3)) = some y0 := hfld 0 _ rfl
        have e1 : DataW.trod enc Tryz.prog W 0 (fun _ => true) true n' 3 (([v0, v1, v2, v3].drop 1).take (Tryz.prog.cellsOf 3)) = some y1 := hfld 1 _ rfl
        have e2 : DataW.trod enc Tryz.prog W 0 (fun _ => true) true n' 3 (([v0, v1, v2, v3].drop 2).take (Tryz.prog.cellsOf 3)) = some y2 := hfld 2 _ rfl
        have e3 : DataW.trod enc Tryz.prog W 0 (fun _ => true) true n' 5 (([v0, v1, v2, v3].drop 3).take (Tryz.prog.cellsOf 5)) = some y3 := hfld 3 _ rfl
        rw [k3] at e0 e1 e2
        rw [k5] at e3
        obtain ⟨d0, hd0, _, w0⟩ := DataW.trod_int Tryz.underlying3 e0
        obtain ⟨d1, hd1, _, w1⟩ := DataW.trod_int Tryz.underlying3 e1
        obtain ⟨d2, hd2, _, w2⟩ := DataW.trod_int Tryz.underlying3 e2
        obtain ⟨d3, hd3, _, w3⟩ := DataW.trod_int Tryz.underlying5 e3
        simp at hd0 hd1 hd2 hd3
        subst hd0 hd1 hd2 hd3
        obtain ⟨c3, rfl⟩ := u8_of8 w3
        have h0 := hcell 0 (by omega)
        have h1 := hcell 1 (by omega)
        have h2 := hcell 2 (by omega)
        have h3 := hcell 3 (by omega)
        refine ⟨⟨d0, d1, d2, c3⟩, b, off, rfl, ⟨hb, ?_, ?_, ?_, ?_, bounds_i64 w0⟩⟩
        · simpa using h0
        · simpa [Nat.add_assoc] using h1
        · simpa [Nat.add_assoc] using h2
        · simpa [Nat.add_assoc] using h3
  refine ⟨fun i => if h : i < len then Classical.choose (hone i h) else ⟨0, 0, 0, 0⟩, hl, fun i hlt => ?_⟩
  have hx := Classical.choose_spec (hone i hlt)
  simp only [dif_pos hlt]
  exact hx
theorem open_bools {H : Type} {enc : TypeId × Value → H} {W : World} {a : Option Addr} {len cap : Nat} {d : DataW H} {ps : List MemPlace}
    (h : DataW.Trod enc Tryz.prog W 0 (fun _ => true) true 32 (.slice a len cap) d ps) : ∃ f : Nat → Bool, Bl W a len f := by
  obtain ⟨fuel, hf⟩ := h
  have hC : Tryz.prog.cellsOf 4 = 1 := by kernel_rfl
  obtain ⟨hl, hi⟩ := slice_elems (P := Tryz.prog) Tryz.underlying32 (by rw [hC]; omega) hf
  have hone : ∀ i, i < len → ∃ (b : Bool) (g o : Nat), a = some ⟨g, o, none⟩ ∧ g < W.heap.size ∧ W.cell? ⟨g, o + i, none⟩ = some (.bool b) := fun i hlt => by
    obtain ⟨g, o, cs, n, y, rfl, hb, hlen, hcell, ht⟩ := hi i hlt
    rw [hC] at hlen hcell
    match cs, hlen with
    | [c0], _ =>
      have h0 := hcell 0 (by omega)
      rw [Nat.mul_one, Nat.add_zero] at h0
      obtain ⟨b, hb0, _⟩ := DataW.trod_bool Tryz.underlying4 ht
      simp at hb0
      subst hb0
      exact ⟨b, g, o, rfl, hb, h0⟩
  refine ⟨fun i => if h : i < len then Classical.choose (hone i h) else false, hl, fun i hlt => ?_⟩
  have hx := Classical.choose_spec (hone i hlt)
  simp only [dif_pos hlt]
  obtain ⟨g, o, h1, h2, h3⟩ := hx
  exact ⟨g, o, h1, h2, h3⟩
end Go.Proofs.YtiffkbmcikiioaaGreat
