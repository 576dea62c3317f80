/-
  A place that came in, opened; cols.Of of any block.
  The document's First, May (polderref06).
  A pointer: its twelve cells, in a box and opened; two pointers compared.
-/
import Derived.Test.YtiffkbmcikiioaaGreatY07
import Derived.Test.YtiffkbmcikiioaaGreatY06
import Derived.Test.YtiffkbmcikiioaaGreatY10

/- A place that came in, opened; cols.Of of any block. -/
namespace Go.Proofs.YtiffkbmcikiioaaGreat
set_option maxRecDepth 100000
open Go.RowKit

theorem open_place {H : Type} {enc : TypeId × Value → H} {W : World} {base : Nat} {v : Value} {d : DataW H} {p : List MemPlace}
    (hok : Value.okWide Tryz.prog W .any base 26 v) (h : DataW.Trod enc Tryz.prog W 0 (fun _ => true) true 26 v d p) :
    ∃ k t : Int, v = .agg #[.int .i64 k, .int .i64 t] ∧ (-9223372036854775808 ≤ k ∧ k ≤ 9223372036854775807) ∧ (-9223372036854775808 ≤ t ∧ t ≤ 9223372036854775807) := by
  have hc2 : Tryz.prog.cellsOf 26 = 2 := by kernel_rfl
  obtain ⟨cs, rfl, hsz, _⟩ : ∃ cs, v = .agg cs ∧ cs.size = Tryz.prog.cellsOf 26 ∧ Row.okWide Tryz.prog W .any base 26 cs := by
    simpa [Value.okWide, Tryz.underlying26] using hok
  rw [hc2] at hsz
  obtain ⟨ll⟩ := cs
  match ll, hsz with
  | [c0, c1], _ =>
  obtain ⟨fuel, hf⟩ := h
  obtain ⟨xs, n', _, _, _, hxl, hfld⟩ := DataW.trod_struct Tryz.underlying26 hf
  have hx : xs.length = 2 := hxl
  match xs, hx with
  | [y0, y1], _ =>
  have k3 : Tryz.prog.cellsOf 3 = 1 := by kernel_rfl
  have e0 : DataW.trod enc Tryz.prog W 0 (fun _ => true) true n' 3 (([c0, c1].drop 0).take (Tryz.prog.cellsOf 3)) = some y0 := hfld 0 _ rfl
  have e1 : DataW.trod enc Tryz.prog W 0 (fun _ => true) true n' 3 (([c0, c1].drop 1).take (Tryz.prog.cellsOf 3)) = some y1 := hfld 1 _ rfl
  rw [k3] at e0 e1
  obtain ⟨d0, hd0, _, w0⟩ := DataW.trod_int Tryz.underlying3 e0
  obtain ⟨d1, hd1, _, w1⟩ := DataW.trod_int Tryz.underlying3 e1
  simp at hd0 hd1
  subst hd0 hd1
  exact ⟨d0, d1, rfl, bounds_i64 w0, bounds_i64 w1⟩

abbrev I64 (n : Int) : Prop := -9223372036854775808 ≤ n ∧ n ≤ 9223372036854775807
/-- What Of answers of any block. -/
def OfB (l : List (Int × Int)) (s k t z : Int) (B : Nat) (w : World) (v : Value) (er : Int) : Prop :=
  (mayL l s k t z = false ∧ v = .slice none 0 0 ∧ er = 1) ∨ ∃ k' t' z' : Nat, k = k' ∧ t = t' ∧ z = z' ∧ Blk l s k' t' z' ∧ er = 0 ∧ OwnC B w v (colsOf l k' t' z')
theorem of_any (l : List (Int × Int)) (s : Int) (v : Value) (w : World) (h : Meas w v l s) (k t z : Int) (hk : I64 k) (ht : I64 t) (hz : I64 z) :
    Calls Tryz.prog 45 #[v, .agg #[.int .i64 k, .int .i64 t], .int .i64 z] w fun e w' => ∃ v' er, e = .returned (.tuple #[v', .int .i64 er]) ∧ OfB l s k t z w.heap.size w' v' er ∧ Below w.heap.size w w' := by
  cases hm : mayL l s k t z with
  | false => exact (of_bad l s v w h k t z hk ht hz hm).mono fun e w' ⟨h1, h2⟩ => ⟨_, _, h1, .inl ⟨hm, rfl, rfl⟩, h2⟩
  | true =>
    obtain ⟨k', t', z', rfl, rfl, rfl, hB⟩ := mayL_iff.1 hm
    exact (of_ok l s v w h k' t' z' hB).mono fun e w' ⟨v', h1, h2, h3⟩ => ⟨_, _, h1, .inr ⟨k', t', z', rfl, rfl, rfl, hB, rfl, h2⟩, h3⟩
end Go.Proofs.YtiffkbmcikiioaaGreat

/- The document's First, May (polderref06). -/
namespace Go.Proofs.YtiffkbmcikiioaaGreat
set_option maxRecDepth 100000
open Go.RowKit

set_option maxHeartbeats 1000000 in
theorem refFirst_any (l : List (Int × Int)) (s : Int) (v : Value) (w : World) (h : Meas w v l s) (hr : RightM l s) (m : Nat) (hml : m ≤ l.length) (x : Int) (hx : aheadL l m = x) :
    Calls Tryz.prog 15 #[v, .int .i64 (m : Int)] w fun e w' => e = .returned (.int .i64 x) ∧ Below w.heap.size w w' := by
  obtain ⟨a, n, c, rfl, hg, s0, s1⟩ := h
  have HG := Lib.hid (hg.below (boxed w (.cells #[.slice a n c, .int .i64 s] 24)))
  have hmn : m ≤ n := by rw [← hg.2.1]; exact hml
  have hn4 : n ≤ 4 := by rw [← hg.2.1]; exact hr.few
  have HR := Lib.hid hr
  have HX := Lib.hid hx
  have HM := Lib.hid hml
  clear hg hr hx hml
  go_enter Tryz.func15, Tryz.ntmps15
  go_wp2_with fail
  go_loop [5, 6] (fun t i => ∃ (k : Nat) (y : Int), k ≤ m ∧ i = .int .i64 k ∧ t = .int .i64 y ∧ y = aheadL l k) (fun _ i => m - (intOf i).toNat)
  case atStart => exact ⟨0, 0, Nat.zero_le _, rfl, rfl, (aheadL_zero l).symm⟩
  case round =>
    obtain ⟨k, y, hk, rfl, rfl, hy⟩ := hrel
    by_cases hlt : k < m
    · obtain ⟨g, o, kk, d, rfl, hld, hG⟩ := HG.out.at_ k (by omega)
      obtain ⟨_, c0, c1, p0, p1, q0, q1⟩ := hG
      have hb := HR.out.bounds k (by have := HM.out; omega)
      have hb' := HR.out.bounds (k + 1) (by have := HM.out; omega)
      have hs : aheadL l (k + 1) = y + d := by
        obtain ⟨hk', e⟩ := hld
        rw [aheadL_succ l k hk', e, hy]
      have HS := Lib.hid hs
      have hy0 : 0 ≤ y ∧ y ≤ 40 := by omega
      have hd0 : 0 ≤ y + d ∧ y + d ≤ 40 := by omega
      clear hb hb' hs hy hld
      obtain ⟨y0, y1⟩ := hy0
      obtain ⟨z0, z1⟩ := hd0
      go_wp2
      go_round
      case rel => exact ⟨k + 1, y + d, by omega, by go_num, by go_num, HS.out.symm⟩
      case measure => simp [intOf]; omega
    · obtain rfl : k = m := by omega
      have HY := Lib.hid hy
      clear hy
      go_wp2
      go_ret
      exact ⟨by rw [← HX.out, ← HY.out]; rfl, boxed _ _⟩

theorem new_pair (U : World) (x y : Value) (ty : TypeId) : (U.alloc (.cells #[x, y] ty)).cell? ⟨U.heap.size, 0, none⟩ = some x ∧ (U.alloc (.cells #[x, y] ty)).cell? ⟨U.heap.size, 1, none⟩ = some y := by
  simp
end Go.Proofs.YtiffkbmcikiioaaGreat

/- A pointer: its twelve cells, in a box and opened; two pointers compared. -/
namespace Go.Proofs.YtiffkbmcikiioaaGreat
set_option maxRecDepth 100000
open Go.RowKit M Go.ChangeShapes

/-- A pointer's fields. -/
structure Ptr where
  ag : Int
  aa : Int
  bg : Int
  ba : Int
  two : Bool
  sz : Int
  lv : Int
  bi : Int
  q : Q
structure Ptr.Ok (p : Ptr) : Prop where
  ag : I64 p.ag
  aa : I64 p.aa
  bg : I64 p.bg
  ba : I64 p.ba
  sz : I64 p.sz
  lv : I64 p.lv
  bi : I64 p.bi
  q : p.q.Ok
def Ptr.cells (p : Ptr) : Array Value := #[.int .i64 p.ag, .int .i64 p.aa, .int .i64 p.bg, .int .i64 p.ba, .bool p.two, .int .i64 p.sz, .int .i64 p.lv, .int .i64 p.bi, .int .u64 p.q.a, .int .u64 p.q.b, .int .u64 p.q.c, .int .u64 p.q.d]
def Ptr.val (p : Ptr) : Value := .agg p.cells
/-- The pointer at none. -/
def noP : Ptr := ⟨0, 0, 0, 0, false, 0, 0, 0, zeroQ⟩
theorem noP_ok : noP.Ok := ⟨by decide, by decide, by decide, by decide, by decide, by decide, by decide, zeroQ_ok⟩
theorem Ptr.ext' {p r : Ptr} (h0 : p.ag = r.ag) (h1 : p.aa = r.aa) (h2 : p.bg = r.bg) (h3 : p.ba = r.ba) (h4 : p.two = r.two) (h5 : p.sz = r.sz) (h6 : p.lv = r.lv) (h7 : p.bi = r.bi) (h8 : p.q = r.q) : p = r := by
  cases p; cases r; simp at h0 h1 h2 h3 h4 h5 h6 h7 h8; subst h0 h1 h2 h3 h4 h5 h6 h7 h8; rfl
theorem Q.ext' {p r : Q} (h0 : p.a = r.a) (h1 : p.b = r.b) (h2 : p.c = r.c) (h3 : p.d = r.d) : p = r := by
  cases p; cases r; simp at h0 h1 h2 h3; subst h0 h1 h2 h3; rfl

/-- Two pointers: are they one? -/
def eqP (p r : Ptr) : Bool := decide (p.ag = r.ag ∧ p.aa = r.aa ∧ p.bg = r.bg ∧ p.ba = r.ba ∧ p.two = r.two ∧ p.sz = r.sz ∧ p.lv = r.lv ∧ p.bi = r.bi ∧ p.q.a = r.q.a ∧ p.q.b = r.q.b ∧ p.q.c = r.q.c ∧ p.q.d = r.q.d)
theorem eqP_iff {p r : Ptr} : eqP p r = true ↔ p = r := by
  unfold eqP
  rw [decide_eq_true_eq]
  constructor
  · rintro ⟨h0, h1, h2, h3, h4, h5, h6, h7, h8, h9, h10, h11⟩
    exact Ptr.ext' h0 h1 h2 h3 h4 h5 h6 h7 (Q.ext' h8 h9 h10 h11)
  · rintro rfl
    exact ⟨rfl, rfl, rfl, rfl, rfl, rfl, rfl, rfl, rfl, rfl, rfl, rfl⟩
theorem eqP_self (p : Ptr) : eqP p p = true := eqP_iff.2 rfl
theorem eqP_not {p r : Ptr} : eqP p r = false ↔ p ≠ r := by
  rw [← Bool.not_eq_true, eqP_iff]

/-- Block b holds a pointer. -/
structure Box (w : World) (b : Nat) (p : Ptr) : Prop where
  c0 : w.cell? ⟨b, 0, none⟩ = some (.int .i64 p.ag)
  c1 : w.cell? ⟨b, 1, none⟩ = some (.int .i64 p.aa)
  c2 : w.cell? ⟨b, 2, none⟩ = some (.int .i64 p.bg)
  c3 : w.cell? ⟨b, 3, none⟩ = some (.int .i64 p.ba)
  c4 : w.cell? ⟨b, 4, none⟩ = some (.bool p.two)
  c5 : w.cell? ⟨b, 5, none⟩ = some (.int .i64 p.sz)
  c6 : w.cell? ⟨b, 6, none⟩ = some (.int .i64 p.lv)
  c7 : w.cell? ⟨b, 7, none⟩ = some (.int .i64 p.bi)
  c8 : w.cell? ⟨b, 8, none⟩ = some (.int .u64 p.q.a)
  c9 : w.cell? ⟨b, 9, none⟩ = some (.int .u64 p.q.b)
  c10 : w.cell? ⟨b, 10, none⟩ = some (.int .u64 p.q.c)
  c11 : w.cell? ⟨b, 11, none⟩ = some (.int .u64 p.q.d)
  lt : b < w.heap.size
theorem Box.next {w w' : World} {b : Nat} {p : Ptr} (h : Box w b p) (k : Below w.heap.size w w') : Box w' b p := by
  have e : ∀ j, w'.cell? ⟨b, j, none⟩ = w.cell? ⟨b, j, none⟩ := fun j => k.cell (p := ⟨b, j, none⟩) h.lt
  exact ⟨by rw [e]; exact h.c0, by rw [e]; exact h.c1, by rw [e]; exact h.c2, by rw [e]; exact h.c3, by rw [e]; exact h.c4, by rw [e]; exact h.c5, by rw [e]; exact h.c6, by rw [e]; exact h.c7,
    by rw [e]; exact h.c8, by rw [e]; exact h.c9, by rw [e]; exact h.c10, by rw [e]; exact h.c11, Nat.lt_of_lt_of_le h.lt k.size⟩
theorem Box.new (w : World) (p : Ptr) : Box (w.alloc (.cells p.cells 31)) w.heap.size p := by
  unfold Ptr.cells
  exact ⟨by simp, by simp, by simp, by simp, by simp, by simp, by simp, by simp, by simp, by simp, by simp, by simp, by simp⟩

theorem open_ptr {H : Type} {enc : TypeId × Value → H} {W : World} {base : Nat} {v : Value} {d : DataW H} {p : List MemPlace}
    (hok : Value.okWide Tryz.prog W .any base 31 v) (h : DataW.Trod enc Tryz.prog W 0 (fun _ => true) true 31 v d p) :
    ∃ x : Ptr, v = x.val ∧ x.Ok := by
  have hc : Tryz.prog.cellsOf 31 = 12 := by kernel_rfl
  obtain ⟨cs, rfl, hsz, _⟩ : ∃ cs, v = .agg cs ∧ cs.size = Tryz.prog.cellsOf 31 ∧ Row.okWide Tryz.prog W .any base 31 cs := by
    simpa [Value.okWide, Tryz.underlying31] using hok
  rw [hc] at hsz
  obtain ⟨ll⟩ := cs
  match ll, hsz with
  | [c0, c1, c2, c3, c4, c5, c6, c7, c8, c9, c10, c11], _ =>
  obtain ⟨fuel, hf⟩ := h
  obtain ⟨xs, n', _, _, _, hxl, hfld⟩ := DataW.trod_struct Tryz.underlying31 hf
  have hx : xs.length = 7 := hxl
  match xs, hx with
  | [y0, y1, y2, y3, y4, y5, y6], _ =>
  have k1 : Tryz.prog.cellsOf 3 = 1 := by kernel_rfl
  have k2 : Tryz.prog.cellsOf 26 = 2 := by kernel_rfl
  have kb : Tryz.prog.cellsOf 4 = 1 := by kernel_rfl
  have k4 : Tryz.prog.cellsOf 29 = 4 := by kernel_rfl
  have ku : Tryz.prog.cellsOf 27 = 1 := by kernel_rfl
  have e0 : DataW.trod enc Tryz.prog W 0 (fun _ => true) true n' 26 (([c0, c1, c2, c3, c4, c5, c6, c7, c8, c9, c10, c11].drop 0).take (Tryz.prog.cellsOf 26)) = some y0 := hfld 0 _ rfl
  have e1 : DataW.trod enc Tryz.prog W 0 (fun _ => true) true n' 26 (([c0, c1, c2, c3, c4, c5, c6, c7, c8, c9, c10, c11].drop 2).take (Tryz.prog.cellsOf 26)) = some y1 := hfld 1 _ rfl
  have e2 : DataW.trod enc Tryz.prog W 0 (fun _ => true) true n' 4 (([c0, c1, c2, c3, c4, c5, c6, c7, c8, c9, c10, c11].drop 4).take (Tryz.prog.cellsOf 4)) = some y2 := hfld 2 _ rfl
  have e3 : DataW.trod enc Tryz.prog W 0 (fun _ => true) true n' 3 (([c0, c1, c2, c3, c4, c5, c6, c7, c8, c9, c10, c11].drop 5).take (Tryz.prog.cellsOf 3)) = some y3 := hfld 3 _ rfl
  have e4 : DataW.trod enc Tryz.prog W 0 (fun _ => true) true n' 3 (([c0, c1, c2, c3, c4, c5, c6, c7, c8, c9, c10, c11].drop 6).take (Tryz.prog.cellsOf 3)) = some y4 := hfld 4 _ rfl
  have e5 : DataW.trod enc Tryz.prog W 0 (fun _ => true) true n' 3 (([c0, c1, c2, c3, c4, c5, c6, c7, c8, c9, c10, c11].drop 7).take (Tryz.prog.cellsOf 3)) = some y5 := hfld 5 _ rfl
  have e6 : DataW.trod enc Tryz.prog W 0 (fun _ => true) true n' 29 (([c0, c1, c2, c3, c4, c5, c6, c7, c8, c9, c10, c11].drop 8).take (Tryz.prog.cellsOf 29)) = some y6 := hfld 6 _ rfl
  rw [k2] at e0 e1
  rw [kb] at e2
  rw [k1] at e3 e4 e5
  rw [k4] at e6
  have pl : ∀ {a b : Value} {y : DataW H × List MemPlace}, DataW.trod enc Tryz.prog W 0 (fun _ => true) true n' 26 [a, b] = some y → ∃ i j : Int, a = .int .i64 i ∧ b = .int .i64 j ∧ I64 i ∧ I64 j := by
    intro a b y hp
    obtain ⟨zs, m, _, _, _, hzl, hz⟩ := DataW.trod_struct Tryz.underlying26 hp
    have hz2 : zs.length = 2 := hzl
    match zs, hz2 with
    | [z0, z1], _ =>
    have f0 : DataW.trod enc Tryz.prog W 0 (fun _ => true) true m 3 (([a, b].drop 0).take (Tryz.prog.cellsOf 3)) = some z0 := hz 0 _ rfl
    have f1 : DataW.trod enc Tryz.prog W 0 (fun _ => true) true m 3 (([a, b].drop 1).take (Tryz.prog.cellsOf 3)) = some z1 := hz 1 _ rfl
    rw [k1] at f0 f1
    obtain ⟨d0, hd0, _, w0⟩ := DataW.trod_int Tryz.underlying3 f0
    obtain ⟨d1, hd1, _, w1⟩ := DataW.trod_int Tryz.underlying3 f1
    simp at hd0 hd1
    exact ⟨d0, d1, hd0, hd1, bounds_i64 w0, bounds_i64 w1⟩
  obtain ⟨ag, aa, rfl, rfl, h1, h2⟩ := pl e0
  obtain ⟨bg, ba, rfl, rfl, h3, h4⟩ := pl e1
  obtain ⟨b, hb, _⟩ := DataW.trod_bool Tryz.underlying4 e2
  obtain ⟨d3, hd3, _, w3⟩ := DataW.trod_int Tryz.underlying3 e3
  obtain ⟨d4, hd4, _, w4⟩ := DataW.trod_int Tryz.underlying3 e4
  obtain ⟨d5, hd5, _, w5⟩ := DataW.trod_int Tryz.underlying3 e5
  simp at hb hd3 hd4 hd5
  subst hb hd3 hd4 hd5
  have e6' : DataW.trod enc Tryz.prog W 0 (fun _ => true) true n' 29 [c8, c9, c10, c11] = some y6 := e6
  obtain ⟨z0, z1, z2, z3, m, _, g0, g1, g2, g3⟩ := trod_array4 Tryz.underlying29 ku e6'
  obtain ⟨x0, i0, _, v0⟩ := DataW.trod_int Tryz.underlying27 g0
  obtain ⟨x1, i1, _, v1⟩ := DataW.trod_int Tryz.underlying27 g1
  obtain ⟨x2, i2, _, v2⟩ := DataW.trod_int Tryz.underlying27 g2
  obtain ⟨x3, i3, _, v3⟩ := DataW.trod_int Tryz.underlying27 g3
  simp at i0 i1 i2 i3
  subst i0 i1 i2 i3
  obtain ⟨a0, a1⟩ := bounds_q v0
  obtain ⟨b0, b1⟩ := bounds_q v1
  obtain ⟨c0, c1⟩ := bounds_q v2
  obtain ⟨d0, d1⟩ := bounds_q v3
  obtain ⟨n0, rfl⟩ := Int.eq_ofNat_of_zero_le a0
  obtain ⟨n1, rfl⟩ := Int.eq_ofNat_of_zero_le b0
  obtain ⟨n2, rfl⟩ := Int.eq_ofNat_of_zero_le c0
  obtain ⟨n3, rfl⟩ := Int.eq_ofNat_of_zero_le d0
  exact ⟨⟨ag, aa, bg, ba, b, d3, d4, d5, ⟨n0, n1, n2, n3⟩⟩, rfl,
    ⟨h1, h2, h3, h4, bounds_i64 w3, bounds_i64 w4, bounds_i64 w5, ⟨by show n0 < _; omega, by show n1 < _; omega, by show n2 < _; omega, by show n3 < _; omega⟩⟩⟩

theorem ptr_guard : Tryz.prog.eqGuardType Tryz.prog.depth 31 = false := by kernel_rfl
theorem sum_equal9 (a b c d a' b' c' d' : Int) (w : World) :
    (Op.equalIn 9999 29 (.agg #[.int .u64 a, .int .u64 b, .int .u64 c, .int .u64 d]) (.agg #[.int .u64 a', .int .u64 b', .int .u64 c', .int .u64 d'])).run Tryz.prog w = .ok (eq4 a b c d a' b' c' d') w := by
  obtain ⟨i, hi⟩ := sum_info
  rw [run_equalIn_array (P := Tryz.prog) w 9998 (n := 4) (e := 27) _ _ Tryz.underlying29 hi]
  have hc : Tryz.prog.cellsOf 27 = 1 := by kernel_rfl
  rw [hc]
  simp [Op.eqItems, List.range, List.range.loop, go_sem]
  by_cases h0 : a = a' <;> by_cases h1 : b = b' <;> by_cases h2 : c = c' <;> by_cases h3 : d = d' <;> simp [eq4, h0, h1, h2, h3]
end Go.Proofs.YtiffkbmcikiioaaGreat
