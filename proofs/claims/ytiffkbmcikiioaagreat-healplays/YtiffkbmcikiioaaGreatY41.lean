/-
  Beside a pool's devices: a block of one's own that is written.
  heal's raw, bad, mend.
-/
import Derived.Test.YtiffkbmcikiioaaGreatY18
import Derived.Test.YtiffkbmcikiioaaGreatY08
import Derived.Test.YtiffkbmcikiioaaGreatY40

/- Beside a pool's devices: a block of one's own that is written. -/
namespace Go.Proofs.YtiffkbmcikiioaaGreat
set_option maxRecDepth 100000
open Go.RowKit Go.Maps M

/-- P stands, and the measure, whatever becomes of block b. -/
def PB (x : Px) (l : List (Int × Int)) (b : Nat) (P : World → Prop) (w : World) : Prop := ∀ w', Turn (fun k => k = b) w w' → Meas w' x.g l x.sc ∧ P w'
theorem PB.out {x : Px} {l : List (Int × Int)} {b : Nat} {P : World → Prop} {w : World} (h : PB x l b P w) : P w := (h w (Turn.refl _ _)).2
theorem turn_put {fp : Nat → Prop} {w w' : World} {b : Nat} (h : Turn fp w w') (hb : ∀ k, k = b → fp k ∨ w.heap.size ≤ k) (o : Obj) : Turn fp w (w'.putObj b o) :=
  ⟨h.os, h.tape, h.output, by unfold World.putObj; simpa using h.size, fun k hk hn => by
    have e : k ≠ b := fun e => (hb k e).elim hn fun h => by omega
    unfold World.putObj
    simp only [Array.getElem?_setIfInBounds]
    rw [if_neg (fun e' => e e'.symm)]
    exact h.block k hk hn⟩
section
variable {X : Nat → Prop} {B : Nat} {w w' : World} {x : Px} {l : List (Int × Int)} {ds : Nat → Dv} {aw : Nat → Bool} {K : Nat} {P Q : World → Prop}
/-- A new block, to be written. -/
theorem StX.mine (h : StX X B w x l ds aw K P) (hb : Below w.heap.size w w') (b : Nat) (hge : w.heap.size ≤ b) (hq : New w.heap.size w' Q) : StX X B w' x l ds aw K (fun w => PB x l b P w ∧ Q w) := by
  obtain ⟨hr, hn, fp, F, bs, h⟩ := h
  have t : Turn (fun k => fp k ∨ k < B) w w' := Turn.of_below hb
  have hBs : B ≤ w.heap.size := Nat.le_trans (h.ge _ h.fpl) (Nat.le_of_lt (h.lt _ h.fpl))
  refine ⟨hr, hn, fp, F, bs, ⟨h.ptr.same (hb.block _ (h.lt _ h.fpl)), h.awy.same (hb.block _ (h.lt _ h.fpa)), fun i hi => (h.dev i hi).below hb, h.good, h.apart, h.lbF, h.abF, h.lbab, h.fpF, h.fpl, h.fpa, fun k hk => Nat.lt_of_lt_of_le (h.lt k hk) hb.size, h.ge, h.xfp, h.xF, h.xl, h.xa, ?_⟩⟩
  intro w2 t2
  have t02 := t.trans t2 fun k hk => .inl hk
  refine ⟨(h.keep w2 t02).1, fun w3 t3 => h.keep w3 (t02.trans t3 fun k hk => .inr (by omega)), ?_⟩
  exact (hq.keep (fp := fun k => fp k ∨ k < B) fun k hk => hk.elim (h.lt k) fun e => by omega) w2 t2
/-- It is written. -/
theorem StX.write {b o : Nat} {v : Value} {Q' : World → Prop} (h : StX X B w x l ds aw K (fun w => PB x l b P w ∧ Q w)) (hQ : ∀ W, Q W → W.cell? ⟨b, o, none⟩ = some v) (t : Turn (fun k => k = b) w w') (hQ' : ∀ W, W.heap[b]? = w'.heap[b]? → Q' W) :
    StX X B w' x l ds aw K (fun w => PB x l b P w ∧ Q' w) ∧ B ≤ b := by
  obtain ⟨hr, hn, fp, F, bs, h⟩ := h
  have hc := hQ w (h.keep.out).2.2
  have hbw := World.block_lt_of_cell? w _ hc
  have hno : ¬ (fp b ∨ b < B) := fun hf => by
    obtain ⟨u, hu⟩ : ∃ u : Value, u ≠ v := by
      by_cases e : v = .bool true
      · exact ⟨.bool false, fun e2 => by rw [e] at e2; cases e2⟩
      · exact ⟨.bool true, fun e2 => e e2.symm⟩
    have t1 : Turn (fun k => fp k ∨ k < B) w (w.setCell ⟨b, o, none⟩ u) := (Turn.refl _ w).setCell (.inl hf) _
    have h1 := hQ _ (h.keep _ t1).2.2
    rw [World.cell?_setCell_same _ _ _ hc] at h1
    exact hu (by cases h1; rfl)
  have hs : ∀ k, fp k → w'.heap[k]? = w.heap[k]? := fun k hk => t.block k (h.lt k hk) fun e => hno (.inl (e ▸ hk))
  have hBb : B ≤ b := by
    rcases Nat.lt_or_ge b B with e | e
    · exact absurd (.inr e) hno
    · exact e
  obtain ⟨ob, hob⟩ : ∃ ob, w.heap[b]? = some ob := ⟨w.heap[b], Array.getElem?_eq_getElem hbw⟩
  refine ⟨⟨hr, hn, fp, F, bs, ⟨h.ptr.same (hs _ h.fpl), h.awy.same (hs _ h.fpa), fun i hi => (h.dev i hi).same t.size fun k hk => hs k (h.fpF i k hi hk), h.good, h.apart, h.lbF, h.abF, h.lbab, h.fpF, h.fpl, h.fpa, fun k hk => Nat.lt_of_lt_of_le (h.lt k hk) t.size, h.ge, h.xfp, h.xF, h.xl, h.xa, ?_⟩⟩, hBb⟩
  intro w2 t2
  have hback : ∀ w3, Turn (fun k => k = b) w2 w3 → Meas w3 x.g l x.sc ∧ P w3 := fun w3 t3 => by
    have h3b : b < w3.heap.size := Nat.lt_of_lt_of_le hbw (Nat.le_trans t.size (Nat.le_trans t2.size t3.size))
    have t4 : Turn (fun k => fp k ∨ k < B) w (w3.putObj b ob) := by
      refine ⟨t3.os.trans (t2.os.trans t.os), t3.tape.trans (t2.tape.trans t.tape), t3.output.trans (t2.output.trans t.output), ?_, fun k hk hf => ?_⟩
      · unfold World.putObj; simpa using Nat.le_trans t.size (Nat.le_trans t2.size t3.size)
      · unfold World.putObj
        simp only [Array.getElem?_setIfInBounds]
        by_cases e : b = k
        · subst e
          rw [if_pos rfl, if_pos h3b, hob]
        · rw [if_neg e, t3.block k (Nat.lt_of_lt_of_le hk (Nat.le_trans t.size t2.size)) (fun e2 => e e2.symm), t2.block k (Nat.lt_of_lt_of_le hk t.size) hf, t.block k hk (fun e2 => e e2.symm)]
    have t5 : Turn (fun k => k = b) (w3.putObj b ob) w3 := by
      refine ⟨rfl, rfl, rfl, by unfold World.putObj; simp, fun k _ hf => ?_⟩
      unfold World.putObj
      simp only [Array.getElem?_setIfInBounds]
      rw [if_neg (fun e => hf e.symm)]
    exact (h.keep _ t4).2.1 w3 t5
  refine ⟨(hback w2 (Turn.refl _ _)).1, hback, hQ' w2 ?_⟩
  exact t2.block b (Nat.lt_of_lt_of_le hbw t.size) hno
end
end Go.Proofs.YtiffkbmcikiioaaGreat

/- heal's raw, bad, mend. -/
namespace Go.Proofs.YtiffkbmcikiioaaGreat
set_option maxRecDepth 100000
open Go.RowKit Go.Maps M

theorem New.ints {B : Nat} {w : World} {v : Value} {l : List Int} (h : OwnI B w v l) : New B w (fun w => OwnI B w v l) := fun w' _ hb => by
  refine ⟨h.1, ?_⟩
  rcases h.2 with hn | ⟨g, cap, cur, rfl, hB, hg, rest⟩
  · exact .inl hn
  · exact .inr ⟨g, cap, cur, rfl, hB, by rw [hb g hB (Array.getElem?_eq_some_iff.1 hg).1]; exact hg, rest⟩
theorem ownI_nums {B : Nat} {W : World} {a : Option Addr} {n c : Nat} {m : List Int} (h : OwnI B W (.slice a n c) m) : m.length = n ∧ ∀ i, i < n → ∃ g o, a = some ⟨g, o, none⟩ ∧ W.cell? ⟨g, o + i, none⟩ = some (.int .i64 (numsF m i)) := by
  obtain ⟨a', n', c', e, hl, _, hj⟩ := h.v
  cases e
  refine ⟨hl, fun i hi => ?_⟩
  obtain ⟨g, ha, _, hc⟩ := hj i (by omega)
  refine ⟨g, 0, ha, ?_⟩
  rw [Nat.zero_add, hc]
  unfold numsF
  rw [List.getD_eq_getElem?_getD, List.getElem?_eq_getElem (by omega)]
  rfl
/-- The columns that are bad, of columns as they may be read. -/
theorem Blk.badOf {l : List (Int × Int)} {sc : Int} {k t z : Nat} (h : Blk l sc k t z) {s : ByteArray} (hs : s.size = z * 64) {hr : Nat → Bool} {G : List ByteArray} (hG : RawF hr (colsOf l k t z) G) :
    Proofs.YtiffkbmcikiioaaGreat.badOf l sc k t s G = badL (encOf l k t z s) G (colsOf l k t z).length := by
  obtain ⟨kk, u, hE⟩ := h.enc7 hs
  have hf := hE.fits hG.len hG.secs
  unfold Proofs.YtiffkbmcikiioaaGreat.badOf
  have hz : s.size / 64 = z := by rw [hs, Nat.mul_div_cancel _ (by decide)]
  rw [mayT_iff.2 ⟨k, t, z, rfl, rfl, hs, h⟩, hz, hf]
  show badL (encOf l k t z s) G (encOf l k t z s).length = _
  rw [encOf_len]
section
variable {X : Nat → Prop} {B : Nat} {w : World} {x : Px} {l : List (Int × Int)} {ds : Nat → Dv} {aw : Nat → Bool} {K : Nat} {P : World → Prop}
theorem StX.now64 (h : StX X B w x l ds aw K P) {i a : Nat} (hi : i < x.n) (ha : (a : Int) < x.sc) : ((ds i).now a).length = 64 := by
  obtain ⟨b, f, _, mb, cb, m, hd, hd'⟩ := h.at_ hi
  obtain ⟨hr, hlt, e⟩ := last_rows hd' a (by have := (h.good hi).len; omega)
  rw [← e]
  exact hr.at_ _ hlt
theorem StX.rawF (h : StX X B w x l ds aw K P) {k t z : Nat} (hBl : Blk l x.sc k t z) : RawF (hereB ds aw) (colsOf l k t z) (rawL ds aw (colsOf l k t z)) := by
  have hp := hBl.puts (s := ⟨(List.replicate (z * 64) (0 : UInt8)).toArray⟩) (by simp [ByteArray.size]) h.right.2
  refine ⟨rawL_len _ _ _, fun j hj e => ?_, fun j hj e => ?_⟩
  · rw [rawL_at _ _ _ _ hj, rawAt, e, if_pos rfl]
    have := h.now64 (hp.dev j hj).2 (hp.at_ j hj).2
    unfold strOf
    simpa [ByteArray.size] using this
  · rw [rawL_at _ _ _ _ hj, rawAt, e]
    rfl

set_option maxHeartbeats 2000000 in
theorem hraw_ok (h : StX X B w x l ds aw K P) (k t z : Nat) (hBl : Blk l x.sc k t z) :
    Calls Tryz.prog 36 #[x.val, .agg #[.int .i64 (k : Int), .int .i64 (t : Int)], .int .i64 (z : Int)] w fun e w' =>
      ∃ v, e = .returned v ∧ Own w' w.heap.size v (rawL ds aw (colsOf l k t z)) ∧ Below w.heap.size w w' := by
  obtain ⟨wa, w2, ea, e2, z2, H2, b2⟩ := boxes8 h k t 37 26
  have HA := Lib.hid ea
  have HE2 := Lib.hid e2
  have HB2 := Lib.hid b2
  have HR := Lib.hid (raw_ok H2 k t z hBl)
  obtain ⟨_, ⟨x0, x1, x2, x3⟩, y0, y1⟩ := H2.out
  clear h H2 ea e2 b2 z2 hBl
  unfold Px.val at HR ⊢
  go_enter Tryz.func36, Tryz.ntmps36
  go_wp2_with (first | (rw [HA.out, HE2.out]; fail))
  rw [HA.out, HE2.out]
  go_wp2_with fail
  refine HR.out.mono ?_
  rintro e w3 ⟨v3, rfl, hO, b3⟩
  go_wp2
  go_ret
  exact ⟨_, rfl, hO.lower HB2.out.size, next HB2.out b3⟩

set_option maxHeartbeats 1000000 in
theorem hbad_ok (h : StX X B w x l ds aw K P) (k t z : Nat) (hBl : Blk l x.sc k t z) (s : ByteArray) (hs : s.size = z * 64) :
    Calls Tryz.prog 43 #[x.val, .agg #[.int .i64 (k : Int), .int .i64 (t : Int)], .string s] w fun e w' =>
      ∃ v, e = .returned v ∧ OwnI w.heap.size w' v (badL (encOf l k t z s) (rawL ds aw (colsOf l k t z)) (colsOf l k t z).length) ∧ Below w.heap.size w w' := by
  obtain ⟨wa, w2, ea, e2, z2, H2, b2⟩ := boxes8 h k t 37 26
  have hz4 := hBl.z4
  have hkt : I64 (k : Int) ∧ I64 (t : Int) := by
    have := hBl.bounds
    exact ⟨⟨by omega, by omega⟩, ⟨by omega, by omega⟩⟩
  have q4 : Int.tdiv (s.size : Int) 64 = (z : Int) := by rw [Int.tdiv_eq_ediv_of_nonneg (by omega)]; omega
  have q5 : IntKind.i64.wrap (z : Int) = (z : Int) := by rw [IntKind.wrap_i64]; omega
  have HA := Lib.hid ea
  have HE2 := Lib.hid e2
  have HB2 := Lib.hid b2
  have HST := Lib.hid H2
  have HR := Lib.hid (hraw_ok (H2.below (Below.refl _ w2).drew) k t z hBl)
  have HBO := Lib.hid (hBl.badOf hs (h.rawF hBl))
  have HFEW : Hid ((rawL ds aw (colsOf l k t z)).length ≤ 100000) := Lib.hid (by rw [rawL_len]; have := hBl.laid.few; omega)
  have HBD := Lib.hid (fun (W : World) (hM : Meas W x.g l x.sc) (v : Value) (hv : Txt W v (rawL ds aw (colsOf l k t z))) => bad_any l x.sc x.g W hM k t hkt.1 hkt.2 s (by omega) (rawL ds aw (colsOf l k t z)) v hv HFEW.out)
  rw [HBO.out] at HBD
  obtain ⟨_, ⟨x0, x1, x2, x3⟩, y0, y1⟩ := H2.out
  have hN : s.size < 1000 := by omega
  clear h H2 ea e2 b2 z2 hBl hkt hs HBO HFEW
  unfold Px.val at HR ⊢
  unfold Px.g at HBD
  generalize rawL ds aw (colsOf l k t z) = G at *
  generalize badL (encOf l k t z s) G (colsOf l k t z).length = bl at *
  go_enter Tryz.func43, Tryz.ntmps43
  go_wp2_with (first | (rw [HA.out, HE2.out]; fail))
  rw [HA.out, HE2.out]
  go_wp2_with fail
  go_region_held3 (fun W => W.cell? ⟨w.heap.size, 0, none⟩ = some (.slice x.ga x.gn x.gc) ∧ W.cell? ⟨w.heap.size, 1, none⟩ = some (.int .i64 x.sc) ∧ W.cell? ⟨w.heap.size, 2, none⟩ = some (.slice (some ⟨x.lb, 0, none⟩) x.n x.n) ∧ W.cell? ⟨w.heap.size, 3, none⟩ = some (.slice (some ⟨x.ab, 0, none⟩) x.n x.n) ∧ W.cell? ⟨w.heap.size + 1, 0, none⟩ = some (.int .i64 (k : Int)) ∧ W.cell? ⟨w.heap.size + 1, 1, none⟩ = some (.int .i64 (t : Int)))
    (first | exact ⟨x0, x1, x2, x3, y0, y1⟩ | exact ⟨k0, k1, k2, k3, k4, k5⟩)
    (first
      | (go_at_call 36; refine HR.out.mono ?_; rintro e w7 ⟨v7, rfl, hO7, b7⟩; have HO7 := Lib.hid hO7.txt; have HST7 := Lib.hid ((HST.out.below (Below.refl _ w2).drew).below b7); have HB7 := Lib.hid (next (next HB2.out (Below.refl _ w2).drew) b7); obtain ⟨_, ⟨k0, k1, k2, k3⟩, k4, k5⟩ := HST7.out.out; clear hO7 b7)
      | (go_at_call 75; refine (HBD.out _ HST7.out.meas _ HO7.out).mono ?_; rintro e w8 ⟨v8, rfl, hO8, b8⟩; obtain ⟨_, ⟨k0, k1, k2, k3⟩, k4, k5⟩ := (HST7.out.below b8).out; have HB8 := Lib.hid (next HB7.out b8); have HO8 := Lib.hid (hO8.lower HB7.out.size); clear hO8 b8))
  go_wp2
  go_ret
  exact ⟨_, rfl, HO8.out, HB8.out⟩
end
section
variable {B : Nat} {w : World} {x : Px} {l : List (Int × Int)} {ds : Nat → Dv} {aw : Nat → Bool} {K : Nat} {P : World → Prop}
set_option maxHeartbeats 4000000 in
theorem hmend_ok (h : St B w x l ds aw K P) (k t z : Nat) (hBl : Blk l x.sc k t z) (s : ByteArray) (hs : s.size = z * 64) (hK : K < 3900000000) :
    Calls Tryz.prog 39 #[x.val, .agg #[.int .i64 (k : Int), .int .i64 (t : Int)], .string s] w fun e w' =>
      e = .returned (.int .i64 (unlN (hereB ds aw) (colsOf l k t z) (encOf l k t z s) (rawL ds aw (colsOf l k t z)) : Int)) ∧ St B w' x l (fixS ds aw (colsOf l k t z) (encOf l k t z s)) aw (K + 32) P ∧ Below B w w' := by
  obtain ⟨wa, w2, ea, e2, z2, H2, b2⟩ := boxes8 h k t 37 26
  have hz4 := hBl.z4
  have HA := Lib.hid ea
  have HE2 := Lib.hid e2
  have HB2 := Lib.hid b2
  have HST := Lib.hid H2
  have HLT := Lib.hid h.lt.2
  have HR := Lib.hid (hbad_ok (H2.below (Below.refl _ w2).drew) k t z hBl s hs)
  have hfew := badL_len (encOf l k t z s) (rawL ds aw (colsOf l k t z)) (colsOf l k t z).length
  have hfew2 := hBl.laid.few
  have HUN := Lib.hid (fixS_count ds aw (colsOf l k t z) (encOf l k t z s))
  have HFX : Hid (fixS ds aw (colsOf l k t z) (encOf l k t z s) = meTo ds aw (colsOf l k t z) (encOf l k t z s) (numsF (badL (encOf l k t z s) (rawL ds aw (colsOf l k t z)) (colsOf l k t z).length)) (badL (encOf l k t z s) (rawL ds aw (colsOf l k t z)) (colsOf l k t z).length).length) := Lib.hid rfl
  generalize hbl : badL (encOf l k t z s) (rawL ds aw (colsOf l k t z)) (colsOf l k t z).length = bl at HR hfew HUN HFX
  have HBI : Hid (∀ i, i < bl.length → I64 (numsF bl i)) := Lib.hid fun i hi => by
    have hm : numsF bl i ∈ bl := by
      unfold numsF
      rw [List.getD_eq_getElem?_getD, List.getElem?_eq_getElem hi]
      exact List.getElem_mem hi
    have hm2 : numsF bl i ∈ badL (encOf l k t z s) (rawL ds aw (colsOf l k t z)) (colsOf l k t z).length := by rw [hbl]; exact hm
    unfold badL at hm2
    obtain ⟨j, hj, e⟩ := List.mem_map.1 hm2
    have := (idx_mem.1 hj).1
    exact ⟨by omega, by omega⟩
  have HPT := Lib.hid (hBl.puts hs h.right.2)
  have HME : Hid (∀ (W : World) (v : Value), Below w2.drew.heap.size w2.drew W → OwnI w2.drew.heap.size W v bl → Calls Tryz.prog 72 #[x.val, .agg #[.int .i64 (k : Int), .int .i64 (t : Int)], .string s, v] W fun e w' =>
      e = .returned (.int .i64 (meN (hereB ds aw) (colsOf l k t z) (numsF bl) bl.length : Int)) ∧ St B w' x l (meTo ds aw (colsOf l k t z) (encOf l k t z s) (numsF bl) bl.length) aw (K + bl.length) (fun W => (P W ∧ BoxX x w.heap.size W ∧ BoxP k t (w.heap.size + 1) W) ∧ OwnI w2.drew.heap.size W v bl) ∧ Below B W w') := Lib.hid fun W v bW hv => by
    have h7 := (HST.out.below (Below.refl _ w2).drew).add bW (New.ints hv)
    obtain ⟨a, n, c, rfl, e, _⟩ := hv.v
    rw [e]
    refine mend_okP h7 k t z hBl s (by omega) hs HPT.out (by omega) a n c (numsF bl) (by omega) (fun W' _ hP i hi => ?_) (fun i hi => HBI.out i (by omega))
    exact (ownI_nums hP.2).2 i hi
  rw [HUN.out, ← HFX.out] at HME
  obtain ⟨_, ⟨x0, x1, x2, x3⟩, y0, y1⟩ := H2.out
  clear h H2 ea e2 b2 z2 hBl hs hz4 HBI HPT HUN HFX hbl
  obtain ⟨T, hT⟩ : ∃ T, unlN (hereB ds aw) (colsOf l k t z) (encOf l k t z s) (rawL ds aw (colsOf l k t z)) = T := ⟨_, rfl⟩
  obtain ⟨ds', hds⟩ : ∃ ds', fixS ds aw (colsOf l k t z) (encOf l k t z s) = ds' := ⟨_, rfl⟩
  rw [hT, hds] at HME ⊢
  have hb32 : bl.length ≤ 32 := by omega
  clear hT hds hfew hfew2
  have HB32 := Lib.hid hb32
  clear hb32
  unfold Px.val at HR HME ⊢
  go_enter Tryz.func39, Tryz.ntmps39
  go_wp2_with (first | (rw [HA.out, HE2.out]; fail))
  rw [HA.out, HE2.out]
  go_wp2_with fail
  go_region_held3 (fun W => W.cell? ⟨w.heap.size, 0, none⟩ = some (.slice x.ga x.gn x.gc) ∧ W.cell? ⟨w.heap.size, 1, none⟩ = some (.int .i64 x.sc) ∧ W.cell? ⟨w.heap.size, 2, none⟩ = some (.slice (some ⟨x.lb, 0, none⟩) x.n x.n) ∧ W.cell? ⟨w.heap.size, 3, none⟩ = some (.slice (some ⟨x.ab, 0, none⟩) x.n x.n) ∧ W.cell? ⟨w.heap.size + 1, 0, none⟩ = some (.int .i64 (k : Int)) ∧ W.cell? ⟨w.heap.size + 1, 1, none⟩ = some (.int .i64 (t : Int)))
    (first | exact ⟨x0, x1, x2, x3, y0, y1⟩ | exact ⟨k0, k1, k2, k3, k4, k5⟩)
    (first
      | (go_at_call 43; refine HR.out.mono ?_; rintro e w7 ⟨v7, rfl, hO7, b7⟩; have HO7 := Lib.hid hO7; have HB7 := Lib.hid b7; obtain ⟨_, ⟨k0, k1, k2, k3⟩, k4, k5⟩ := ((HST.out.below (Below.refl _ w2).drew).below b7).out; clear hO7 b7)
      | (go_at_call 72; refine (HME.out _ _ HB7.out HO7.out).mono ?_; rintro e w8 ⟨rfl, h8, b8⟩; have HS8 := Lib.hid h8; obtain ⟨⟨_, ⟨k0, k1, k2, k3⟩, k4, k5⟩, _⟩ := h8.out; have HB8 := Lib.hid (((HB2.out.mono HLT.out).trans ((Below.refl _ w2).drew.mono (Nat.le_trans HLT.out HB2.out.size))).trans ((HB7.out.mono (Nat.le_trans HLT.out HB2.out.size)).trans b8)); clear h8 b8))
  go_wp2
  go_ret
  exact ⟨rfl, (HS8.out.mono fun w h => h.1.1).more (Nat.add_le_add_left HB32.out _), HB8.out⟩
end
end Go.Proofs.YtiffkbmcikiioaaGreat
