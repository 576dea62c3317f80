/-
  code.Encode of any block.
  vdev.encoded, spared.
-/
import Derived.Test.YtiffkbmcikiioaaGreatY23
import Derived.Test.YtiffkbmcikiioaaGreatY13
import Derived.Test.YtiffkbmcikiioaaGreatY14
import Derived.Test.YtiffkbmcikiioaaGreatY19

/- code.Encode of any block. -/
namespace Go.Proofs.YtiffkbmcikiioaaGreat
set_option maxRecDepth 100000
open Go.RowKit M

/-- May a text of N bytes be a block there? -/
def mayT (l : List (Int × Int)) (sc k t : Int) (N : Nat) : Bool := decide (N % 64 = 0) && mayL l sc k t ((N / 64 : Nat) : Int)

set_option maxHeartbeats 1000000 in
theorem encode_bad (l : List (Int × Int)) (sc : Int) (v : Value) (w : World) (h : Meas w v l sc) (k t : Int) (hk : I64 k) (ht : I64 t) (s : ByteArray) (hs : s.size ≤ 1000) (hno : mayT l sc k t s.size = false) :
    Calls Tryz.prog 86 #[v, .agg #[.int .i64 k, .int .i64 t], .string s] w fun e w' => e = .returned (.tuple #[.slice none 0 0, .int .i64 1]) ∧ Below w.heap.size w w' := by
  have K1 := h
  obtain ⟨a, n, c, rfl, hg⟩ := id h
  replace K1 := Lib.hid (HeldP.start k t K1)
  obtain ⟨N, hN⟩ : ∃ N, s.size = N := ⟨_, rfl⟩
  rw [hN] at hs hno
  by_cases hm : N % 64 = 0
  · have hno' : mayL l sc k t ((N / 64 : Nat) : Int) = false := by simpa [mayT, hm] using hno
    obtain ⟨z, hz⟩ : ∃ z, N / 64 = z := ⟨_, rfl⟩
    rw [hz] at hno'
    have q3 : Int.tmod (N : Int) 64 = 0 := by rw [Int.tmod_eq_emod_of_nonneg (by omega)]; omega
    have q4 : Int.tdiv (N : Int) 64 = (z : Int) := by rw [Int.tdiv_eq_ediv_of_nonneg (by omega)]; omega
    have hz2 : z ≤ 1000 := by omega
    have HC := Lib.hid (of_bad l sc _ _ K1.out.h.m k t (z : Int) hk ht ⟨by omega, by omega⟩ hno')
    clear h hg hno hno' hm hk ht hz
    go_enter Tryz.func86, Tryz.ntmps86
    go_wp2_with fail
    refine HC.out.mono ?_
    rintro e w1 ⟨rfl, b1⟩
    go_wp2
    go_ret2
    exact ⟨rfl, next K1.out.h.below b1⟩
  · have q3 : (Int.tmod (N : Int) 64 == 0) = false := by rw [Int.tmod_eq_emod_of_nonneg (by omega)]; simp; omega
    have q4 : ((N : Int) % 64 != 0) = true := by simp; omega
    clear h hg hno hm hk ht
    go_enter Tryz.func86, Tryz.ntmps86
    go_wp2
    go_ret2
    exact ⟨rfl, K1.out.h.below⟩

/-- The columns' texts of a block. -/
def encOf (l : List (Int × Int)) (k t z : Nat) (s : ByteArray) : List ByteArray := encL (colsOf l k t z) fun i => sect s (i % z)
theorem encOf_len (l : List (Int × Int)) (k t z : Nat) (s : ByteArray) : (encOf l k t z s).length = (colsOf l k t z).length := encL_len _ _

theorem encode_ok (l : List (Int × Int)) (sc : Int) (v : Value) (w : World) (h : Meas w v l sc) (k t z : Nat) (hB : Blk l sc k t z) (s : ByteArray) (hs : s.size = z * 64) :
    Calls Tryz.prog 86 #[v, .agg #[.int .i64 (k : Int), .int .i64 (t : Int)], .string s] w fun e w' => ∃ v', e = .returned (.tuple #[v', .int .i64 0]) ∧ Own w' w.heap.size v' (encOf l k t z s) ∧ Below w.heap.size w w' := by
  obtain ⟨a, n, c, rfl, hg⟩ := id h
  have hk := hB.hk
  obtain ⟨kk, u, hlk, hok⟩ : ∃ kk u, l[k] = (kk, u) ∧ okG (kk, u) = true := ⟨l[k].1, l[k].2, rfl, hB.right.all k hk⟩
  obtain ⟨u0, rfl⟩ := Int.eq_ofNat_of_zero_le (show 0 ≤ u by have := okG_wide hok; omega)
  obtain ⟨R, hR⟩ := hB.rowed hlk
  exact encode_core l sc a n c w h k t z (colsOf l k t z) R hB.z1 hB.z4 hB.laid.pos hB.laid.few hR.few hR.in_ hR.last s s.size rfl hs
    (fun w1 _ hM => of_ok l sc _ w1 hM k t z hB)

/-- What Encode answers of any block. -/
def EncB (l : List (Int × Int)) (sc k t : Int) (s : ByteArray) (B : Nat) (w : World) (v : Value) (er : Int) : Prop :=
  (mayT l sc k t s.size = false ∧ v = .slice none 0 0 ∧ er = 1) ∨ ∃ k' t' z' : Nat, k = k' ∧ t = t' ∧ s.size = z' * 64 ∧ Blk l sc k' t' z' ∧ er = 0 ∧ Own w B v (encOf l k' t' z' s)
theorem mayT_iff {l : List (Int × Int)} {sc k t : Int} {N : Nat} : mayT l sc k t N = true ↔ ∃ k' t' z' : Nat, k = k' ∧ t = t' ∧ N = z' * 64 ∧ Blk l sc k' t' z' := by
  unfold mayT
  rw [Bool.and_eq_true, decide_eq_true_iff, mayL_iff]
  constructor
  · rintro ⟨h, k', t', z', h1, h2, h3, hB⟩
    exact ⟨k', t', z', h1, h2, by omega, hB⟩
  · rintro ⟨k', t', z', h1, h2, h3, hB⟩
    refine ⟨by omega, k', t', z', h1, h2, ?_, hB⟩
    rw [h3, Nat.mul_div_cancel _ (by omega)]
theorem encode_any (l : List (Int × Int)) (sc : Int) (v : Value) (w : World) (h : Meas w v l sc) (k t : Int) (hk : I64 k) (ht : I64 t) (s : ByteArray) (hs : s.size ≤ 1000) :
    Calls Tryz.prog 86 #[v, .agg #[.int .i64 k, .int .i64 t], .string s] w fun e w' => ∃ v' er, e = .returned (.tuple #[v', .int .i64 er]) ∧ EncB l sc k t s w.heap.size w' v' er ∧ Below w.heap.size w w' := by
  cases hm : mayT l sc k t s.size with
  | false => exact (encode_bad l sc v w h k t hk ht s hs hm).mono fun e w' ⟨h1, h2⟩ => ⟨_, _, h1, .inl ⟨hm, rfl, rfl⟩, h2⟩
  | true =>
    obtain ⟨k', t', z', rfl, rfl, h3, hB⟩ := mayT_iff.1 hm
    exact (encode_ok l sc v w h k' t' z' hB s h3).mono fun e w' ⟨v', h1, h2, h4⟩ => ⟨_, _, h1, .inr ⟨k', t', z', rfl, rfl, h3, hB, rfl, h2⟩, h4⟩
end Go.Proofs.YtiffkbmcikiioaaGreat

/- vdev.encoded, spared. -/
namespace Go.Proofs.YtiffkbmcikiioaaGreat
set_option maxRecDepth 100000
open Go.RowKit Go.Maps M

/-- A box that holds a place. -/
structure BoxP (k t : Int) (b : Nat) (w : World) : Prop where
  c0 : w.cell? ⟨b, 0, none⟩ = some (.int .i64 k)
  c1 : w.cell? ⟨b, 1, none⟩ = some (.int .i64 t)
theorem BoxP.new (w : World) (k t : Int) (B : Nat) (hB : B ≤ w.heap.size) (ty : TypeId) : New B (w.alloc (.cells #[.int .i64 k, .int .i64 t] ty)) (BoxP k t w.heap.size) :=
  (New.block w _ B hB).mono fun w' e => ⟨by simp [World.cell?, e], by simp [World.cell?, e]⟩

/-- What encoded answers. -/
def EncV (l : List (Int × Int)) (sc k t : Int) (s : ByteArray) (B : Nat) (w : World) (v1 v2 : Value) (er : Int) : Prop :=
  (mayT l sc k t s.size = false ∧ v1 = .slice none 0 0 ∧ v2 = .slice none 0 0 ∧ er = 1) ∨
  ∃ k' t' z' : Nat, k = k' ∧ t = t' ∧ s.size = z' * 64 ∧ Blk l sc k' t' z' ∧ er = 0 ∧ New B w (fun w => OwnC B w v1 (colsOf l k' t' z') ∧ Own w B v2 (encOf l k' t' z' s))


/-- Boxes for a pool's devices and a place, made one behind the other. -/
theorem boxes8 {X : Nat → Prop} {B : Nat} {w : World} {x : Px} {l : List (Int × Int)} {ds : Nat → Dv} {aw : Nat → Bool} {K : Nat} {P : World → Prop} (h : StX X B w x l ds aw K P) (k t : Int) (t1 t2 : TypeId) :
    ∃ w1 w2, w.alloc (.cells #[.slice x.ga x.gn x.gc, .int .i64 x.sc, .slice (some ⟨x.lb, 0, none⟩) x.n x.n, .slice (some ⟨x.ab, 0, none⟩) x.n x.n] t1) = w1 ∧ w1.alloc (.cells #[.int .i64 k, .int .i64 t] t2) = w2 ∧
      w2.heap.size = w.heap.size + 2 ∧ StX X B w2 x l ds aw K (fun w' => P w' ∧ BoxX x w.heap.size w' ∧ BoxP k t (w.heap.size + 1) w') ∧ Below w.heap.size w w2 := by
  have b1 := boxed w (.cells #[.slice x.ga x.gn x.gc, .int .i64 x.sc, .slice (some ⟨x.lb, 0, none⟩) x.n x.n, .slice (some ⟨x.ab, 0, none⟩) x.n x.n] t1)
  have H1 := h.add b1 (BoxX.new w x _ (Nat.le_refl _) _)
  have hz1 : (w.alloc (.cells #[.slice x.ga x.gn x.gc, .int .i64 x.sc, .slice (some ⟨x.lb, 0, none⟩) x.n x.n, .slice (some ⟨x.ab, 0, none⟩) x.n x.n] t1)).heap.size = w.heap.size + 1 := by simp
  refine ⟨_, _, rfl, rfl, by simp, ?_, ?_⟩
  · have b2 := boxed (w.alloc (.cells #[.slice x.ga x.gn x.gc, .int .i64 x.sc, .slice (some ⟨x.lb, 0, none⟩) x.n x.n, .slice (some ⟨x.ab, 0, none⟩) x.n x.n] t1)) (.cells #[.int .i64 k, .int .i64 t] t2)
    have H2 := H1.add b2 (BoxP.new _ k t _ (Nat.le_refl _) _)
    rw [hz1] at H2
    exact H2.mono fun w h => ⟨h.1.1, h.1.2, h.2⟩
  · exact next b1 (boxed _ _)

section
variable {X : Nat → Prop} {B : Nat} {w : World} {x : Px} {l : List (Int × Int)} {ds : Nat → Dv} {aw : Nat → Bool} {K : Nat} {P : World → Prop}
set_option maxHeartbeats 2000000 in
theorem encoded_any (h : StX X B w x l ds aw K P) (k t : Int) (hk : I64 k) (ht : I64 t) (s : ByteArray) (hs : s.size ≤ 1000) :
    Calls Tryz.prog 58 #[x.val, .agg #[.int .i64 k, .int .i64 t], .string s] w fun e w' => ∃ v1 v2 er, e = .returned (.tuple #[v1, v2, .int .i64 er]) ∧ EncV l x.sc k t s w.heap.size w' v1 v2 er ∧ Below w.heap.size w w' := by
  obtain ⟨wa, w2, ea, e2, z2, H2, b2⟩ := boxes8 h k t 37 26
  have HA := Lib.hid ea
  have HE2 := Lib.hid e2
  have HB2 := Lib.hid b2
  have HR := Lib.hid (right8_any H2)
  have HST := Lib.hid H2
  have HK := Lib.hid hk
  have HT := Lib.hid ht
  obtain ⟨_, ⟨x0, x1, x2, x3⟩, y0, y1⟩ := H2.out
  clear h H2 ea e2 b2 hk ht
  unfold Px.val at HR ⊢
  go_enter Tryz.func58, Tryz.ntmps58
  go_wp2_with (first | (rw [HA.out, HE2.out]; fail))
  rw [HA.out, HE2.out]
  go_wp2_with fail
  refine HR.out.mono ?_
  rintro e w3 ⟨rfl, b3⟩
  have HST3 := Lib.hid (HST.out.below b3)
  have HB3 := Lib.hid (next HB2.out b3)
  clear x0 x1 x2 x3 y0 y1 b3 HST HB2
  obtain ⟨_, ⟨x0, x1, x2, x3⟩, y0, y1⟩ := HST3.out.out
  have HE := Lib.hid (encode_any l x.sc x.g w3 HST3.out.meas k t HK.out HT.out s hs)
  unfold Px.g at HE
  go_wp2_with fail
  refine HE.out.mono ?_
  rintro e w4 ⟨v4, er, rfl, he, b4⟩
  have HST4 := Lib.hid (HST3.out.below b4)
  have HB4 := Lib.hid (next HB3.out b4)
  clear x0 x1 x2 x3 y0 y1 HE
  obtain ⟨_, ⟨x0, x1, x2, x3⟩, y0, y1⟩ := HST4.out.out
  rcases he with ⟨hno, rfl, rfl⟩ | ⟨k', t', z', rfl, rfl, hsz, hBl, rfl, hO⟩
  · go_wp2
    go_ret3
    exact ⟨_, _, _, rfl, .inl ⟨hno, rfl, rfl, rfl⟩, HB4.out⟩
  · have q4 : Int.tdiv (s.size : Int) 64 = (z' : Int) := by rw [Int.tdiv_eq_ediv_of_nonneg (by omega)]; omega
    have hz4 := hBl.z4
    have HO := Lib.hid hO
    have HBL := Lib.hid hBl
    have HSZ := Lib.hid hsz
    have HC := Lib.hid (of_ok l x.sc x.g w4 HST4.out.meas k' t' z' hBl)
    have HSS := Lib.hid HB3.out.size
    unfold Px.g at HC
    clear hO hBl hsz
    go_wp2_with fail
    refine HC.out.mono ?_
    rintro e w5 ⟨v5, rfl, hO5, b5⟩
    go_wp2
    go_ret3
    refine ⟨_, _, _, rfl, .inr ⟨k', t', z', rfl, rfl, HSZ.out, HBL.out, rfl, ?_⟩, next HB4.out b5⟩
    exact (New.cols (hO5.lower HB4.out.size)).and (New.txt ((HO.out.lower HSS.out).below b5))
end
theorem spared_any (kk u : Int) (w : World) (hok : okG (kk, u) = true) :
    Calls Tryz.prog 60 #[.agg #[.int .i64 kk, .int .i64 u]] w fun e w' => e = .returned (.int .i64 (if kk = 0 then u - 1 else 1)) ∧ Below w.heap.size w w' := by
  have hb := Lib.hid (boxed w (.cells #[.int .i64 kk, .int .i64 u] 53))
  rcases okG_cases hok with ⟨rfl, h1, h8⟩ | ⟨rfl, h1, h8⟩
  · clear hok
    go_enter Tryz.func60, Tryz.ntmps60
    go_wp2
    go_ret
    exact ⟨by simp, hb.out⟩
  · clear hok
    go_enter Tryz.func60, Tryz.ntmps60
    go_wp2
    go_ret
    exact ⟨by simp, hb.out⟩
end Go.Proofs.YtiffkbmcikiioaaGreat
