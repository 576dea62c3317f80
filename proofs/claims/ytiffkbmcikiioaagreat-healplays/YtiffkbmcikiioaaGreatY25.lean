/-
  vdev.Write: what becomes of the devices; the walk.
-/
import Derived.Test.YtiffkbmcikiioaaGreatY24

/- vdev.Write: what becomes of the devices; the walk. -/
namespace Go.Proofs.YtiffkbmcikiioaaGreat
set_option maxRecDepth 100000
open Go.RowKit Go.Maps M

def devN (L : List C) (j : Nat) : Nat := (L.getD j ⟨0, 0, false, 0⟩).dev.toNat
def atN (L : List C) (j : Nat) : Nat := (L.getD j ⟨0, 0, false, 0⟩).at_.toNat
/-- The devices behind j columns' writing. -/
def wrTo (ds : Nat → Dv) (aw : Nat → Bool) (L : List C) (E : List ByteArray) : Nat → Nat → Dv
  | 0 => ds
  | j + 1 => putD (wrTo ds aw L E j) aw (devN L j) (atN L j) (E.getD j ⟨#[]⟩)
/-- The devices that didn't take one of j columns. -/
def faTo (hr : Nat → Bool) (L : List C) : Nat → List Nat
  | 0 => []
  | j + 1 => if hr (devN L j) then faTo hr L j else putN (faTo hr L j) (devN L j)
theorem wrTo_here (ds : Nat → Dv) (aw : Nat → Bool) (L : List C) (E : List ByteArray) (j : Nat) : hereB (wrTo ds aw L E j) aw = hereB ds aw := by
  induction j with
  | zero => rfl
  | succ j ih => rw [wrTo, hereB_put, ih]
/-- Columns and their texts, as they can be written. -/
structure Puts (n : Nat) (sc : Int) (L : List C) (E : List ByteArray) : Prop where
  len : E.length = L.length
  pos : 0 < L.length
  few : L.length ≤ 32
  dev : ∀ j (h : j < L.length), L[j].dev = (devN L j : Int) ∧ devN L j < n
  at_ : ∀ j (h : j < L.length), L[j].at_ = (atN L j : Int) ∧ (atN L j : Int) < sc
  size : ∀ j, j < E.length → (E.getD j ⟨#[]⟩).size = 64
def failN (ds : Nat → Dv) (aw : Nat → Bool) (L : List C) : Nat := (faTo (hereB ds aw) L L.length).length
def spareN (x : Int × Int) : Int := if x.1 = 0 then x.2 - 1 else 1
def errN (x : Int × Int) (n : Nat) : Int := if spareN x < (n : Int) then 6 else 0
theorem ownC_in {w : World} {B g n c : Nat} {L : List C} (h : OwnC B w (.slice (some ⟨g, 0, none⟩) n c) L) (j : Nat) (hj : j < L.length) : IsC w g (j * 4) L[j] := by
  obtain ⟨g', c', e, _, _, hc⟩ := h.some (by omega)
  simp only [Value.slice.injEq, Option.some.injEq, Addr.mk.injEq, and_true] at e
  obtain ⟨rfl, _⟩ := e
  exact hc.at_ j hj
theorem own_ex {w : World} {B : Nat} {v : Value} {E : List ByteArray} (h : Own w B v E) (hl : 0 < E.length) : ∃ g c, v = .slice (some ⟨g, 0, none⟩) E.length c ∧ E.length ≤ c ∧ B ≤ g ∧ g < w.heap.size := by
  rcases h.2 with ⟨_, h0⟩ | ⟨g, cap, cur, rfl, hB, hb, hnc, _⟩
  · omega
  · exact ⟨g, cap, rfl, hnc, hB, (Array.getElem?_eq_some_iff.1 hb).1⟩
theorem own_in {w : World} {B g n c : Nat} {E : List ByteArray} (h : Own w B (.slice (some ⟨g, 0, none⟩) n c) E) (j : Nat) (hj : j < E.length) : w.cell? ⟨g, j, none⟩ = some (.string (E.getD j ⟨#[]⟩)) := by
  obtain ⟨g', o, c', e, _, _, hc⟩ := h.txt.isSome (by omega)
  simp only [Value.slice.injEq, Option.some.injEq, Addr.mk.injEq, and_true] at e
  obtain ⟨⟨rfl, rfl⟩, _⟩ := e
  have := hc j hj
  rw [Nat.zero_add] at this
  rw [this, List.getD_eq_getElem?_getD, List.getElem?_eq_getElem hj]
  rfl
/-- A pool's group, in memory. -/
theorem StX.group {X : Nat → Prop} {B : Nat} {w : World} {x : Px} {l : List (Int × Int)} {ds : Nat → Dv} {aw : Nat → Bool} {K : Nat} {P : World → Prop} (h : StX X B w x l ds aw K P) (k : Nat) (hk : k < l.length) :
    ∃ g o, x.ga = some ⟨g, o, none⟩ ∧ g < w.heap.size ∧ w.cell? ⟨g, o + k * 2, none⟩ = some (.int .i64 l[k].1) ∧ w.cell? ⟨g, o + k * 2 + 1, none⟩ = some (.int .i64 l[k].2) ∧ k < x.gn ∧ x.gn ≤ 4 := by
  have h4 := h.right.1.few
  obtain ⟨a, n, c, hv, hg, _⟩ := h.meas
  obtain ⟨ga, gn, gc, sc, lb, n8, ab⟩ := x
  unfold Px.g at hv
  cases hv
  obtain ⟨g, o, ha, hG⟩ := hg.2.2 k hk
  have h2 : l.length = gn := hg.2.1
  exact ⟨g, o, ha, hG.lt, hG.c0, hG.c1, by show k < gn; omega, by show gn ≤ 4; omega⟩
/-- What Write and Mend keep beside the devices: boxes, the columns and their texts. -/
structure Kp8 (P : World → Prop) (x : Px) (k t : Int) (b g1 g2 m : Nat) (L : List C) (E : List ByteArray) (w : World) : Prop where
  p : P w
  x : BoxX x b w
  y : BoxP k t (b + 1) w
  c : ∀ j (h : j < L.length), IsC w g1 (j * 4) L[j]
  t : ∀ j, j < m → w.cell? ⟨g2, j, none⟩ = some (.string (E.getD j ⟨#[]⟩))
theorem New.in_ {B : Nat} {w w' : World} {P : World → Prop} {X : Nat → Prop} {B' : Nat} {x : Px} {l : List (Int × Int)} {ds : Nat → Dv} {aw : Nat → Bool} {K : Nat} {Q : World → Prop} (h : StX X B' w x l ds aw K Q) (hb : Below w.heap.size w w') (hq : New w.heap.size w' P) (_ : B = B') : StX X B' w' x l ds aw K (fun w => Q w ∧ P w) := h.add hb hq

section
variable {B : Nat} {w : World} {x : Px} {l : List (Int × Int)} {ds : Nat → Dv} {aw : Nat → Bool} {K : Nat} {P : World → Prop}
set_option maxHeartbeats 4000000 in
theorem write8_ok (h : St B w x l ds aw K P) (k t z : Nat) (hBl : Blk l x.sc k t z) (s : ByteArray) (hs : s.size ≤ 1000) (hsz : s.size = z * 64) (hP : Puts x.n x.sc (colsOf l k t z) (encOf l k t z s)) (hK : K < 4000000000) :
    Calls Tryz.prog 28 #[x.val, .agg #[.int .i64 (k : Int), .int .i64 (t : Int)], .string s] w fun e w' =>
      e = .returned (.tuple #[.int .i64 (failN ds aw (colsOf l k t z) : Int), .int .i64 (errN (l[k]'hBl.hk) (failN ds aw (colsOf l k t z)))]) ∧
      St B w' x l (wrTo ds aw (colsOf l k t z) (encOf l k t z s) (colsOf l k t z).length) aw (K + 32) P ∧ Below B w w' := by
  obtain ⟨_, h32⟩ := h.right.1.devs h.right.2
  have hbd := hBl.bounds
  obtain ⟨wa, w2, ea, e2, z2, H2, b2⟩ := boxes8 h k t 37 26
  have HA := Lib.hid ea
  have HE2 := Lib.hid e2
  have HB2 := Lib.hid b2
  have hBw := h.lt.2
  have HE := Lib.hid (encoded_any H2 k t ⟨by omega, by omega⟩ ⟨by omega, by omega⟩ s hs)
  have HST := Lib.hid H2
  have HBL := Lib.hid hBl
  have HP := Lib.hid hP
  have HSZ := Lib.hid hsz
  obtain ⟨_, ⟨x0, x1, x2, x3⟩, y0, y1⟩ := H2.out
  have hmm := @run_makeMap Tryz.prog
  unfold Px.val at HE ⊢
  generalize hL : colsOf l k t z = L
  generalize hEn : encOf l k t z s = E
  have HL := Lib.hid hL
  have HEN := Lib.hid hEn
  clear h H2 ea e2 b2 hP hsz hL hEn
  go_enter Tryz.func28, Tryz.ntmps28
  go_wp2_with (first | (rw [HA.out, HE2.out]; fail))
  rw [HA.out, HE2.out]
  go_wp2_with fail
  refine HE.out.mono ?_
  rintro e w3 ⟨v1, v2, er, rfl, he, b3⟩
  rcases he with ⟨hno, _, _, _⟩ | ⟨k', t', z', ek, et, es, hB', rfl, hN⟩
  · exfalso
    have := mayT_iff.2 ⟨k, t, z, rfl, rfl, HSZ.out, HBL.out⟩
    rw [this] at hno
    cases hno
  · obtain rfl : k = k' := by omega
    obtain rfl : t = t' := by omega
    obtain rfl : z = z' := by have := HSZ.out; omega
    rw [HL.out, HEN.out] at hN
    have HP' := Lib.hid (show Puts x.n x.sc L E by rw [← HL.out, ← HEN.out]; exact HP.out)
    have HST3 := Lib.hid (HST.out.add b3 hN)
    have HB3 := Lib.hid (next HB2.out b3)
    clear x0 x1 x2 x3 y0 y1 b3 HST HB2 hN HE HP ek et es
    obtain ⟨hc3, ht3⟩ := HST3.out.out.2
    obtain ⟨m, hm⟩ : ∃ m, L.length = m := ⟨_, rfl⟩
    have hEm : E.length = m := by rw [HP'.out.len, hm]
    have hm0 : 0 < m := by rw [← hm]; exact HP'.out.pos
    have hm32 : m ≤ 32 := by rw [← hm]; exact HP'.out.few
    obtain ⟨g1, c1, rfl, hgc1, hg1, _⟩ := hc3.some (by omega)
    obtain ⟨g2, c2, rfl, hgc2, hg2, _⟩ := own_ex ht3 (by omega)
    have HST4 := Lib.hid (HST3.out.mono (Q := Kp8 P x k t w.heap.size g1 g2 m L E) fun w' h => ⟨h.1.1, h.1.2.1, h.1.2.2, ownC_in h.2.1, fun j hj => own_in h.2.2 j (by omega)⟩)
    rw [hm] at hgc1 ⊢
    rw [hEm] at hgc2 ⊢
    clear hc3 ht3 HST3 hg1 hg2
    have HM := Lib.hid hm
    have HEM := Lib.hid hEm
    clear hm hEm
    have hmb : SMap (w3.alloc (.map #[] 0)) w3.heap.size 0 [] := SMap.made w3
    have HST5 : Hid (StX (fun k => k = w3.heap.size) B (w3.alloc (.map #[] 0)) x l ds aw K (Kp8 P x k t w.heap.size g1 g2 m L E)) := Lib.hid (HST4.out.turnX (Turn.of_below (boxed w3 _)) (fun k hk => .inr (by omega)) (fun k hk => by simp; omega) HST4.out.lt.2)
    have HB5 := Lib.hid ((HB3.out.mono hBw).trans ((boxed w3 (.map #[] 0)).mono (Nat.le_trans hBw HB3.out.size)))
    go_wp2_with fail
    generalize w3.alloc (.map #[] 0) = w5 at *
    generalize w3.heap.size = mb at *
    have HMB := Lib.hid hmb
    clear hmb HST4 HB3
    go_loopw [28] (fun i wr => ∃ j : Nat, j ≤ m ∧ i = .int .i64 j ∧ StX (fun k => k = mb) B wr x l (wrTo ds aw L E j) aw (K + j) (Kp8 P x k t w.heap.size g1 g2 m L E) ∧ SMap wr mb j (faTo (hereB ds aw) L j) ∧ Below B w wr) (fun i _ => m - (intOf i).toNat)
    case atStart => exact ⟨0, Nat.zero_le _, rfl, HST5.out, HMB.out, HB5.out⟩
    case round =>
      obtain ⟨j, hj, rfl, hst, hsm, hbw⟩ := hrel
      have HS := Lib.hid hst
      have HSM := Lib.hid hsm
      have HBW := Lib.hid hbw
      clear hst hsm hbw
      obtain ⟨_, ⟨x0, x1, x2, x3⟩, ⟨y0, y1⟩, hc, htx⟩ := HS.out.out
      by_cases hlt : j < m
      · have hc' := hc j (by rw [HM.out]; exact hlt)
        have ht' := htx j hlt
        obtain ⟨d0, d1⟩ := HP'.out.dev j (by rw [HM.out]; exact hlt)
        obtain ⟨a0, a1⟩ := HP'.out.at_ j (by rw [HM.out]; exact hlt)
        have hsz := HP'.out.size j (by rw [HEM.out]; exact hlt)
        have HW1 : Hid (wrTo ds aw L E (j + 1) = putD (wrTo ds aw L E j) aw (devN L j) (atN L j) (E.getD j ⟨#[]⟩)) := Lib.hid rfl
        have HF1 : Hid (faTo (hereB ds aw) L (j + 1) = if hereB ds aw (devN L j) then faTo (hereB ds aw) L j else putN (faTo (hereB ds aw) L j) (devN L j)) := Lib.hid rfl
        have HHR := Lib.hid (wrTo_here ds aw L E j)
        generalize hTX : E.getD j ⟨#[]⟩ = tx at *
        have HTX := Lib.hid hTX
        clear hTX
        generalize devN L j = d at *
        generalize atN L j = a at *
        generalize hcc : L[j]'(by rw [HM.out]; exact hlt) = cc at *
        obtain ⟨e0, e1, e2, e3⟩ := hc'
        clear hc htx hcc
        obtain ⟨cd, ca, cp, cr⟩ := cc
        simp only at d0 a0 e0 e1 e2 e3
        subst d0 a0
        have hb6 := boxed wr (.cells #[.int .i64 (d : Int), .int .i64 (a : Int), .bool cp, .int .i64 cr] 75)
        have HS6 := Lib.hid (HS.out.add hb6 (BoxC.new wr ⟨d, a, cp, cr⟩ _ (Nat.le_refl _) 75))
        have HSM6 := Lib.hid (HSM.out.same (hb6.block mb HSM.out.lt))
        have HBW6 := Lib.hid (HBW.out.trans (hb6.mono HS.out.lt.2))
        go_wp2_with fail
        clear hb6 x0 x1 x2 x3 y0 y1 ht' e0 e1 e2 e3
        generalize wr.alloc (.cells #[.int .i64 (d : Int), .int .i64 (a : Int), .bool cp, .int .i64 cr] 75) = w6 at *
        generalize wr.heap.size = bc at *
        have HPU := Lib.hid (put_any (HS6.out.below ((Below.refl _ w6).drew)) ⟨d, a, cp, cr⟩ d a rfl d1 rfl a1 tx hsz (by omega))
        rw [HHR.out] at HPU
        obtain ⟨⟨_, ⟨x0, x1, x2, x3⟩, _, _, htx⟩, z0, z1, z2', z3⟩ := HS6.out.out
        have ht' := (htx j hlt).trans (by rw [HTX.out])
        clear htx
        have q1 : (0 : Int) ≤ (j : Int) := by omega
        have q2 : (j : Int) < (m : Int) := by omega
        unfold Px.val C.val at HPU
        go_region_held3 (fun W => W.cell? ⟨w.heap.size, 0, none⟩ = some (.slice x.ga x.gn x.gc) ∧ W.cell? ⟨w.heap.size, 1, none⟩ = some (.int .i64 x.sc) ∧ W.cell? ⟨w.heap.size, 2, none⟩ = some (.slice (some ⟨x.lb, 0, none⟩) x.n x.n) ∧ W.cell? ⟨w.heap.size, 3, none⟩ = some (.slice (some ⟨x.ab, 0, none⟩) x.n x.n) ∧ W.cell? ⟨bc, 0, none⟩ = some (.int .i64 (d : Int)) ∧ W.cell? ⟨bc, 1, none⟩ = some (.int .i64 (a : Int)) ∧ W.cell? ⟨bc, 2, none⟩ = some (.bool cp) ∧ W.cell? ⟨bc, 3, none⟩ = some (.int .i64 cr) ∧ W.cell? ⟨g2, j, none⟩ = some (.string tx))
          (first | exact ⟨x0, x1, x2, x3, z0, z1, z2', z3, ht'⟩ | exact ⟨k0, k1, k2, k3, k4, k5, k6, k7, k8⟩)
          (first | (go_at_call 59; refine HPU.out.mono ?_; rintro e w7 ⟨rfl, h7, b7, hX7⟩; have HS7 := Lib.hid h7; obtain ⟨⟨_, ⟨k0, k1, k2, k3⟩, _, _, htx7⟩, k4, k5, k6, k7⟩ := h7.out; have k8 := (htx7 j hlt).trans (by rw [HTX.out]); clear htx7 h7))
        have HB7 := Lib.hid (HBW6.out.drew.trans b7)
        have HX7 := Lib.hid (hX7 mb rfl)
        clear b7 hX7 x0 x1 x2 x3 z0 z1 z2' z3 ht' HPU
        cases hh : hereB ds aw d with
        | true =>
          go_wp2
          go_roundw
          case rel =>
            refine ⟨j + 1, by omega, by go_num, ?_, ?_, HB7.out⟩
            · rw [HW1.out]
              exact HS7.out.mono fun w h => h.1
            · rw [HF1.out, hh, if_pos rfl]
              obtain ⟨h1, D, h2, h3⟩ := HSM6.out.same HX7.out
              exact ⟨h1, D, h2.mono (Nat.le_succ _), h3⟩
          case measure => simp [intOf]; omega
        | false =>
          obtain ⟨w8, hr8, hs8, ht8⟩ := SMap.put (HSM6.out.same HX7.out) d (by omega) (by unfold maxLen; omega)
          have HS8 := Lib.hid hs8
          have HT8 := Lib.hid ht8
          clear hs8 ht8
          go_wp2
          go_roundw
          case rel =>
            have tX : Turn (fun k => k = mb) w7 w8 := (Turn.refl _ w7).mapTurned rfl HT8.out
            refine ⟨j + 1, by omega, by go_num, ?_, ?_, HB7.out.trans (tX.below (fun k hk => ?_) HS7.out.lt.2)⟩
            · rw [HW1.out]
              exact (HS7.out.mono fun w h => h.1).turnX tX (fun k hk => .inl hk) (fun k hk => by rw [hk]; exact HS8.out.lt) HS7.out.lt.2
            · rw [HF1.out, hh, if_neg (by simp)]
              exact HS8.out
            · rw [hk]
              obtain ⟨_, _, fp, F, bs, hF⟩ := HS7.out
              exact hF.ge mb (hF.xfp mb rfl)
          case measure => simp [intOf]; omega
      · obtain rfl : j = m := by omega
        have hkl := hBl.hk
        obtain ⟨gg, og, ega, ilt, i0, i1, hkg, hg4⟩ := HS.out.group k hkl
        have hok := hBl.right.all k hkl
        have HNL : Hid (failN ds aw L = (faTo (hereB ds aw) L j).length) := Lib.hid (by unfold failN; rw [HM.out])
        obtain ⟨N, hN⟩ : ∃ N, (faTo (hereB ds aw) L j).length = N := ⟨_, rfl⟩
        rw [hN] at HNL
        generalize hlk : l[k] = lk at i0 i1 hok
        obtain ⟨kk, u⟩ := lk
        have HLK := Lib.hid hlk
        simp only at i0 i1
        rw [ega] at x0 ⊢
        have hN32 := HSM.out.le
        rw [hN] at hN32
        have hlen := fun (q : Ext wr) ty => (HSM.out.same (q.h.block mb HSM.out.lt)).len ty
        rw [hN] at hlen
        have CS : Hid (∀ q : Ext wr, Calls Tryz.prog 60 #[.agg #[.int .i64 kk, .int .i64 u]] q.v fun e w' => e = .returned (.int .i64 (spareN (kk, u))) ∧ ∃ q' : Ext wr, w' = q'.v) := Lib.hid (Ext.calls fun w' hb => spared_any kk u w' hok)
        have lx : w.heap.size < wr.heap.size := World.block_lt_of_cell? wr _ x0
        have ly : w.heap.size + 1 < wr.heap.size := World.block_lt_of_cell? wr _ y0
        have g0 := fun q : Ext wr => q.cell x0 lx
        have g4 := fun q : Ext wr => q.cell y0 ly
        have g5 := fun q : Ext wr => q.cell i0 ilt
        have g6 := fun q : Ext wr => q.cell i1 ilt
        generalize hsp : spareN (kk, u) = sp at *
        have q1 : (k : Int) < (x.gn : Int) := by omega
        have HSW := Lib.hid hsp
        clear hsp hok hlk i0 i1
        go_wp2_with fail
        haveI hne : Nonempty (Ext wr) := Ext.some wr
        refine wp_region_family (Ext.v (W := wr)) (by kernel_rfl) (by kernel_rfl) ⟨⟨_, (Below.refl _ wr).drew⟩, rfl⟩ ?_
        repeat (go_big_quiet_step (first | (go_at_call 60; exact CS.out _)))
        refine wpQuiet_nil ?_
        rintro w7 ⟨⟨w4, K4⟩, rfl⟩
        have hl4 : ∀ ty, (Builtin.len_ #[125] ty #[.map (some mb)]).run Tryz.prog w7 = .ok (.int .i64 (N : Int)) w7 := hlen ⟨w7, K4⟩
        have HFIN : Hid (St B w7 x l (wrTo ds aw L E L.length) aw (K + 32) P ∧ Below B w w7) := Lib.hid (by
          rw [HM.out]
          exact ⟨((((HS.out.below K4).mono fun w h => h.p).sub (fun _ h => h.elim)).more (by omega)), HBW.out.trans (K4.mono HS.out.lt.2)⟩)
        clear hlen g0 g4 g5 g6 x0 x1 x2 x3 y0 y1 hc htx
        by_cases hcmp : sp < (N : Int)
        · have d1 : decide (sp < (N : Int)) = true := by simpa using hcmp
          go_wp2
          go_ret2
          refine ⟨?_, HFIN.out⟩
          rw [HNL.out, HLK.out, errN, HSW.out, if_pos hcmp]
          rfl
        · have d1 : decide (sp < (N : Int)) = false := by simpa using hcmp
          go_wp2
          go_ret2
          refine ⟨?_, HFIN.out⟩
          rw [HNL.out, HLK.out, errN, HSW.out, if_neg (by omega)]
          rfl
end
end Go.Proofs.YtiffkbmcikiioaaGreat
