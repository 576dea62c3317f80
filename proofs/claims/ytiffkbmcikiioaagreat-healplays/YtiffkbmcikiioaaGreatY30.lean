/-
  vdev.Write of any block; vdev.Mend.
-/
import Derived.Test.YtiffkbmcikiioaaGreatY25
import Derived.Test.YtiffkbmcikiioaaGreatY29

/- vdev.Write of any block; vdev.Mend. -/
namespace Go.Proofs.YtiffkbmcikiioaaGreat
set_option maxRecDepth 100000
open Go.RowKit Go.Maps M

theorem Blk.puts {l : List (Int × Int)} {sc : Int} {k t z : Nat} (h : Blk l sc k t z) {s : ByteArray} (hs : s.size = z * 64) {n : Nat} (hn : devsL l sc = (n : Int)) : Puts n sc (colsOf l k t z) (encOf l k t z s) := by
  obtain ⟨kk, u, hE⟩ := h.enc7 hs
  have hl := h.laid
  refine ⟨encOf_len _ _ _ _ _, hl.pos, hl.few, fun j hj => ?_, fun j hj => ?_, fun j hj => ?_⟩
  · obtain ⟨h0, h1⟩ := h.dev j hj
    have e : devN (colsOf l k t z) j = (colsOf l k t z)[j].dev.toNat := by unfold devN; rw [List.getD_eq_getElem?_getD, List.getElem?_eq_getElem hj]; rfl
    rw [e]
    omega
  · have h0 := hl.at0 j hj
    have h1 := hl.at1 j hj
    have e : atN (colsOf l k t z) j = (colsOf l k t z)[j].at_.toNat := by unfold atN; rw [List.getD_eq_getElem?_getD, List.getElem?_eq_getElem hj]; rfl
    rw [e]
    omega
  · rw [List.getD_eq_getElem?_getD, List.getElem?_eq_getElem hj]
    have := encL_size hE.sound hE.hf
    rw [← hE.enc] at this
    exact this _ (List.getElem_mem hj)

/-- What Write answers of any block, and what becomes of the devices. -/
def Wrote (l : List (Int × Int)) (sc k t : Int) (s : ByteArray) (ds : Nat → Dv) (aw : Nat → Bool) (ds' : Nat → Dv) (n : Nat) (er : Int) : Prop :=
  (mayT l sc k t s.size = false ∧ ds' = ds ∧ n = 0 ∧ er = 1) ∨
  ∃ k' t' z' : Nat, k = k' ∧ t = t' ∧ s.size = z' * 64 ∧ ∃ hB : Blk l sc k' t' z', ds' = wrTo ds aw (colsOf l k' t' z') (encOf l k' t' z' s) (colsOf l k' t' z').length ∧ n = failN ds aw (colsOf l k' t' z') ∧ er = errN (l[k']'hB.hk) n

section
variable {B : Nat} {w : World} {x : Px} {l : List (Int × Int)} {ds : Nat → Dv} {aw : Nat → Bool} {K : Nat} {P : World → Prop}
set_option maxHeartbeats 2000000 in
theorem write8_bad (h : St B w x l ds aw K P) (k t : Int) (hk : I64 k) (ht : I64 t) (s : ByteArray) (hs : s.size ≤ 1000) (hno : mayT l x.sc k t s.size = false) :
    Calls Tryz.prog 28 #[x.val, .agg #[.int .i64 k, .int .i64 t], .string s] w fun e w' =>
      e = .returned (.tuple #[.int .i64 0, .int .i64 1]) ∧ Below w.heap.size w w' := by
  obtain ⟨wa, w2, ea, e2, z2, H2, b2⟩ := boxes8 h k t 37 26
  have HA := Lib.hid ea
  have HE2 := Lib.hid e2
  have HB2 := Lib.hid b2
  have HE := Lib.hid (encoded_any H2 k t hk ht s hs)
  have HNO := Lib.hid hno
  obtain ⟨_, ⟨x0, x1, x2, x3⟩, y0, y1⟩ := H2.out
  unfold Px.val at HE ⊢
  clear h H2 ea e2 b2 hno hk ht
  go_enter Tryz.func28, Tryz.ntmps28
  go_wp2_with (first | (rw [HA.out, HE2.out]; fail))
  rw [HA.out, HE2.out]
  go_wp2_with fail
  refine HE.out.mono ?_
  rintro e w3 ⟨v1, v2, er, rfl, he, b3⟩
  rcases he with ⟨_, rfl, rfl, rfl⟩ | ⟨k', t', z', rfl, rfl, es, hB', rfl, hN⟩
  · go_wp2
    go_ret2
    exact ⟨rfl, next HB2.out b3⟩
  · exfalso
    have := mayT_iff.2 ⟨k', t', z', rfl, rfl, es, hB'⟩
    rw [HNO.out] at this
    cases this
theorem write8_any (h : St B w x l ds aw K P) (k t : Int) (hk : I64 k) (ht : I64 t) (s : ByteArray) (hs : s.size ≤ 1000) (hK : K < 4000000000) :
    Calls Tryz.prog 28 #[x.val, .agg #[.int .i64 k, .int .i64 t], .string s] w fun e w' =>
      ∃ n er ds', e = .returned (.tuple #[.int .i64 (n : Nat), .int .i64 er]) ∧ Wrote l x.sc k t s ds aw ds' n er ∧ St B w' x l ds' aw (K + 32) P ∧ Below B w w' := by
  cases hm : mayT l x.sc k t s.size with
  | false => exact (write8_bad h k t hk ht s hs hm).mono fun e w' ⟨h1, h2⟩ => ⟨0, 1, ds, h1, .inl ⟨hm, rfl, rfl, rfl⟩, (h.below h2).more (by omega), h2.mono h.lt.2⟩
  | true =>
    obtain ⟨k', t', z', rfl, rfl, h3, hB⟩ := mayT_iff.1 hm
    exact (write8_ok h k' t' z' hB s hs h3 (hB.puts h3 h.right.2) hK).mono fun e w' ⟨h1, h2, h4⟩ => ⟨_, _, _, h1, .inr ⟨k', t', z', rfl, rfl, h3, hB, rfl, rfl, rfl⟩, h2, h4⟩

/-- Which of a list's places there are. -/
def okAt (m : Nat) (k : Int) : Bool := decide (0 ≤ k) && decide (k < m)
/-- The devices behind the mending of j places, and how many were taken. -/
def meTo (ds : Nat → Dv) (aw : Nat → Bool) (L : List C) (E : List ByteArray) (q : Nat → Int) : Nat → Nat → Dv
  | 0 => ds
  | j + 1 => if okAt L.length (q j) then putD (meTo ds aw L E q j) aw (devN L (q j).toNat) (atN L (q j).toNat) (E.getD (q j).toNat ⟨#[]⟩) else meTo ds aw L E q j
def meN (hr : Nat → Bool) (L : List C) (q : Nat → Int) : Nat → Nat
  | 0 => 0
  | j + 1 => if okAt L.length (q j) && hr (devN L (q j).toNat) then meN hr L q j + 1 else meN hr L q j
theorem meTo_here (ds : Nat → Dv) (aw : Nat → Bool) (L : List C) (E : List ByteArray) (q : Nat → Int) (j : Nat) : hereB (meTo ds aw L E q j) aw = hereB ds aw := by
  induction j with
  | zero => rfl
  | succ j ih =>
    rw [meTo]
    split
    · rw [hereB_put, ih]
    · exact ih
theorem meN_le (hr : Nat → Bool) (L : List C) (q : Nat → Int) (j : Nat) : meN hr L q j ≤ j := by
  induction j with
  | zero => exact Nat.le_refl _
  | succ j ih =>
    rw [meN]
    split <;> omega
set_option maxHeartbeats 4000000 in
theorem mend_okP (h : St B w x l ds aw K P) (k t z : Nat) (hBl : Blk l x.sc k t z) (s : ByteArray) (hs : s.size ≤ 1000) (hsz : s.size = z * 64) (hP : Puts x.n x.sc (colsOf l k t z) (encOf l k t z s)) (hK : K < 4000000000)
    (a : Option Addr) (N c : Nat) (q : Nat → Int) (hN : N ≤ 1000000) (hq : ∀ w', Below B w w' → P w' → ∀ i, i < N → ∃ g o, a = some ⟨g, o, none⟩ ∧ w'.cell? ⟨g, o + i, none⟩ = some (.int .i64 (q i))) (hqb : ∀ i, i < N → I64 (q i)) :
    Calls Tryz.prog 72 #[x.val, .agg #[.int .i64 (k : Int), .int .i64 (t : Int)], .string s, .slice a N c] w fun e w' =>
      e = .returned (.int .i64 (meN (hereB ds aw) (colsOf l k t z) q N : Int)) ∧ St B w' x l (meTo ds aw (colsOf l k t z) (encOf l k t z s) q N) aw (K + N) P ∧ Below B w w' := by
  obtain ⟨_, h32⟩ := h.right.1.devs h.right.2
  have hbd := hBl.bounds
  obtain ⟨wa, w2, ea, e2, z2, H2, b2⟩ := boxes8 h k t 37 26
  have HA := Lib.hid ea
  have HE2 := Lib.hid e2
  have HB2 := Lib.hid b2
  have hBw := h.lt.2
  have HE := Lib.hid (encoded_any H2 k t ⟨by omega, by omega⟩ ⟨by omega, by omega⟩ s hs)
  have HST := Lib.hid H2
  have HBL := Lib.hid hBl
  have HP := Lib.hid hP
  have HSZ := Lib.hid hsz
  have HQ := Lib.hid hq
  have HQB := Lib.hid hqb
  obtain ⟨_, ⟨x0, x1, x2, x3⟩, y0, y1⟩ := H2.out
  unfold Px.val at HE ⊢
  generalize hL : colsOf l k t z = L
  generalize hEn : encOf l k t z s = E
  have HL := Lib.hid hL
  have HEN := Lib.hid hEn
  clear h H2 ea e2 b2 hP hsz hL hEn hq hqb
  go_enter Tryz.func72, Tryz.ntmps72
  go_wp2_with (first | (rw [HA.out, HE2.out]; fail))
  rw [HA.out, HE2.out]
  go_wp2_with fail
  refine HE.out.mono ?_
  rintro e w3 ⟨v1, v2, er, rfl, he, b3⟩
  rcases he with ⟨hno, _, _, _⟩ | ⟨k', t', z', ek, et, es, hB', rfl, hN3⟩
  · exfalso
    have := mayT_iff.2 ⟨k, t, z, rfl, rfl, HSZ.out, HBL.out⟩
    rw [this] at hno
    cases hno
  · obtain rfl : k = k' := by omega
    obtain rfl : t = t' := by omega
    obtain rfl : z = z' := by have := HSZ.out; omega
    rw [HL.out, HEN.out] at hN3
    have HP' := Lib.hid (show Puts x.n x.sc L E by rw [← HL.out, ← HEN.out]; exact HP.out)
    have HST3 := Lib.hid (HST.out.add b3 hN3)
    have HB3 := Lib.hid (next HB2.out b3)
    clear x0 x1 x2 x3 y0 y1 b3 HST HB2 hN3 HE HP ek et es
    obtain ⟨hc3, ht3⟩ := HST3.out.out.2
    obtain ⟨m, hm⟩ : ∃ m, L.length = m := ⟨_, rfl⟩
    have hEm : E.length = m := by rw [HP'.out.len, hm]
    have hm0 : 0 < m := by rw [← hm]; exact HP'.out.pos
    have hm32 : m ≤ 32 := by rw [← hm]; exact HP'.out.few
    obtain ⟨g1, c1, rfl, hgc1, hg1, _⟩ := hc3.some (by omega)
    obtain ⟨g2, c2, rfl, hgc2, hg2, _⟩ := own_ex ht3 (by omega)
    have HST4 := Lib.hid (HST3.out.mono (Q := Kp8 P x k t w.heap.size g1 g2 m L E) fun w' h => ⟨h.1.1, h.1.2.1, h.1.2.2, ownC_in h.2.1, fun j hj => own_in h.2.2 j (by omega)⟩)
    have HB4 := Lib.hid (HB3.out.mono hBw)
    rw [hm] at hgc1 ⊢
    rw [hEm] at hgc2 ⊢
    clear hc3 ht3 HST3 hg1 hg2
    have HM := Lib.hid hm
    have HEM := Lib.hid hEm
    clear hm hEm
    go_wp2_with fail
    go_loopw [12, 27] (fun nv i wr => ∃ j : Nat, j ≤ N ∧ i = .int .i64 j ∧ nv = .int .i64 (meN (hereB ds aw) L q j : Int) ∧ St B wr x l (meTo ds aw L E q j) aw (K + j) (Kp8 P x k t w.heap.size g1 g2 m L E) ∧ Below B w wr) (fun _ i _ => N - (intOf i).toNat)
    case atStart => exact ⟨0, Nat.zero_le _, rfl, rfl, HST4.out, HB4.out⟩
    case round =>
      obtain ⟨j, hj, rfl, rfl, hst, hbw⟩ := hrel
      have HS := Lib.hid hst
      have HBW := Lib.hid hbw
      have hml := meN_le (hereB ds aw) L q j
      clear hst hbw
      obtain ⟨_, ⟨x0, x1, x2, x3⟩, ⟨y0, y1⟩, hc, htx⟩ := HS.out.out
      by_cases hlt : j < N
      · obtain ⟨gq, oq, rfl, hqc⟩ := HQ.out wr HBW.out HS.out.out.p j hlt
        obtain ⟨qb0, qb1⟩ := HQB.out j hlt
        have HM1 : Hid (meTo ds aw L E q (j + 1) = if okAt m (q j) then putD (meTo ds aw L E q j) aw (devN L (q j).toNat) (atN L (q j).toNat) (E.getD (q j).toNat ⟨#[]⟩) else meTo ds aw L E q j) := Lib.hid (by rw [meTo, HM.out])
        have HF1 : Hid (meN (hereB ds aw) L q (j + 1) = if okAt m (q j) && hereB ds aw (devN L (q j).toNat) then meN (hereB ds aw) L q j + 1 else meN (hereB ds aw) L q j) := Lib.hid (by rw [meN, HM.out])
        have HHR := Lib.hid (meTo_here ds aw L E q j)
        generalize hqj : q j = qj at *
        generalize meN (hereB ds aw) L q j = T at *
        by_cases hin : 0 ≤ qj ∧ qj < (m : Int)
        · obtain ⟨r, rfl⟩ := Int.eq_ofNat_of_zero_le hin.1
          have hrm : r < m := by omega
          have hc' := hc r (by rw [HM.out]; exact hrm)
          obtain ⟨d0, d1⟩ := HP'.out.dev r (by rw [HM.out]; exact hrm)
          obtain ⟨a0, a1⟩ := HP'.out.at_ r (by rw [HM.out]; exact hrm)
          have hsz := HP'.out.size r (by rw [HEM.out]; exact hrm)
          have hok : okAt m (r : Int) = true := by unfold okAt; simp; omega
          rw [hok, if_pos rfl] at HM1
          rw [hok, Bool.true_and] at HF1
          rw [Int.toNat_natCast] at HM1 HF1
          generalize hTX : E.getD r ⟨#[]⟩ = tx at *
          have HTX := Lib.hid hTX
          clear hTX
          have ht' := (htx r hrm).trans (by rw [HTX.out])
          generalize devN L r = d at *
          generalize atN L r = a at *
          generalize hcc : L[r]'(by rw [HM.out]; exact hrm) = cc at *
          have HCC : Hid (∃ h : r < L.length, L[r] = cc) := Lib.hid ⟨by rw [HM.out]; exact hrm, hcc⟩
          clear hc htx hcc
          obtain ⟨cd, ca, cp, cr⟩ := cc
          simp only at d0 a0
          subst d0 a0
          have e0 := hc'.c0
          have e1 := hc'.c1
          have e2 := hc'.c2
          have e3 := hc'.c3
          simp only at e0 e1 e2 e3
          clear hc'
          have d1' : decide ((0 : Int) ≤ (r : Int)) = true := by simp
          have d2' : decide ((r : Int) < (m : Int)) = true := by simpa using hrm
          go_wp2_with fail
          have HPU := Lib.hid (put_any (HS.out.below ((Below.refl _ wr).drew)) ⟨d, a, cp, cr⟩ d a rfl d1 rfl a1 tx hsz (by omega))
          rw [HHR.out] at HPU
          unfold Px.val C.val at HPU
          have q1 : (0 : Int) ≤ (r : Int) := by omega
          have q2 : (r : Int) < (m : Int) := by omega
          go_region_held3 (fun W => W.cell? ⟨w.heap.size, 0, none⟩ = some (.slice x.ga x.gn x.gc) ∧ W.cell? ⟨w.heap.size, 1, none⟩ = some (.int .i64 x.sc) ∧ W.cell? ⟨w.heap.size, 2, none⟩ = some (.slice (some ⟨x.lb, 0, none⟩) x.n x.n) ∧ W.cell? ⟨w.heap.size, 3, none⟩ = some (.slice (some ⟨x.ab, 0, none⟩) x.n x.n) ∧ W.cell? ⟨g1, r * 4, none⟩ = some (.int .i64 (d : Int)) ∧ W.cell? ⟨g1, r * 4 + 1, none⟩ = some (.int .i64 (a : Int)) ∧ W.cell? ⟨g1, r * 4 + 2, none⟩ = some (.bool cp) ∧ W.cell? ⟨g1, r * 4 + 3, none⟩ = some (.int .i64 cr) ∧ W.cell? ⟨g2, r, none⟩ = some (.string tx))
            (first | exact ⟨x0, x1, x2, x3, e0, e1, e2, e3, ht'⟩ | exact ⟨k0, k1, k2, k3, k4, k5, k6, k7, k8⟩)
            (first | (go_at_call 59; refine HPU.out.mono ?_; rintro e w7 ⟨rfl, h7, b7, hX7⟩; have HS7 := Lib.hid h7; obtain ⟨_, ⟨k0, k1, k2, k3⟩, _, hc7, htx7⟩ := h7.out; obtain ⟨hrL, hcc7⟩ := HCC.out; obtain ⟨k4, k5, k6, k7⟩ := hc7 r hrL; simp only [hcc7] at k4 k5 k6 k7; have k8 := (htx7 r hrm).trans (by rw [HTX.out]); clear htx7 h7 hc7 hcc7))
          have HB7 := Lib.hid (HBW.out.drew.trans b7)
          clear b7 hX7 x0 x1 x2 x3 e0 e1 e2 e3 ht' HPU
          cases hh : hereB ds aw d with
          | true =>
            go_wp2
            go_roundw
            case rel =>
              refine ⟨j + 1, by omega, by go_num, ?_, ?_, HB7.out⟩
              · rw [HF1.out, hh, if_pos rfl]; go_num
              · rw [HM1.out]; exact HS7.out
            case measure => simp [intOf]; omega
          | false =>
            go_wp2
            go_roundw
            case rel =>
              refine ⟨j + 1, by omega, by go_num, ?_, ?_, HB7.out⟩
              · rw [HF1.out, hh, if_neg (by simp)]
              · rw [HM1.out]; exact HS7.out
            case measure => simp [intOf]; omega
        · have hok : okAt m qj = false := by unfold okAt; simp; omega
          rw [hok, if_neg (by simp)] at HM1
          rw [hok, Bool.false_and, if_neg (by simp)] at HF1
          clear hc htx
          by_cases hneg : qj < 0
          · have d1' : decide ((0 : Int) ≤ qj) = false := by simpa using hneg
            go_wp2_with fail
            haveI hne : Nonempty (Ext wr) := Ext.some wr
            refine wp_region_family (Ext.v (W := wr)) (by kernel_rfl) (by kernel_rfl) ⟨⟨_, (Below.refl _ wr).drew⟩, rfl⟩ ?_
            repeat (go_big_quiet_step (first | fail))
            refine wpQuiet_nil ?_
            rintro w7 ⟨⟨w4, K4⟩, rfl⟩
            go_wp2
            go_roundw
            case rel =>
              refine ⟨j + 1, by omega, by go_num, ?_, ?_, HBW.out.trans (K4.mono HS.out.lt.2)⟩
              · rw [HF1.out]
              · rw [HM1.out]; exact (HS.out.below K4).more (by omega)
            case measure => simp [intOf]; omega
          · have d1' : decide ((0 : Int) ≤ qj) = true := by simp; omega
            have d2' : decide (qj < (m : Int)) = false := by simp; omega
            go_wp2_with fail
            haveI hne : Nonempty (Ext wr) := Ext.some wr
            refine wp_region_family (Ext.v (W := wr)) (by kernel_rfl) (by kernel_rfl) ⟨⟨_, (Below.refl _ wr).drew⟩, rfl⟩ ?_
            repeat (go_big_quiet_step (first | fail))
            refine wpQuiet_nil ?_
            rintro w7 ⟨⟨w4, K4⟩, rfl⟩
            go_wp2
            go_roundw
            case rel =>
              refine ⟨j + 1, by omega, by go_num, ?_, ?_, HBW.out.trans (K4.mono HS.out.lt.2)⟩
              · rw [HF1.out]
              · rw [HM1.out]; exact (HS.out.below K4).more (by omega)
            case measure => simp [intOf]; omega
      · obtain rfl : j = N := by omega
        go_wp2
        go_ret
        exact ⟨rfl, HS.out.mono fun w h => h.p, HBW.out⟩
theorem mend_ok (h : St B w x l ds aw K P) (k t z : Nat) (hBl : Blk l x.sc k t z) (s : ByteArray) (hs : s.size ≤ 1000) (hsz : s.size = z * 64) (hP : Puts x.n x.sc (colsOf l k t z) (encOf l k t z s)) (hK : K < 4000000000)
    (a : Option Addr) (N c : Nat) (q : Nat → Int) (hN : N ≤ 1000000) (hq : ∀ w', Below B w w' → ∀ i, i < N → ∃ g o, a = some ⟨g, o, none⟩ ∧ w'.cell? ⟨g, o + i, none⟩ = some (.int .i64 (q i))) (hqb : ∀ i, i < N → I64 (q i)) :
    Calls Tryz.prog 72 #[x.val, .agg #[.int .i64 (k : Int), .int .i64 (t : Int)], .string s, .slice a N c] w fun e w' =>
      e = .returned (.int .i64 (meN (hereB ds aw) (colsOf l k t z) q N : Int)) ∧ St B w' x l (meTo ds aw (colsOf l k t z) (encOf l k t z s) q N) aw (K + N) P ∧ Below B w w' :=
  mend_okP h k t z hBl s hs hsz hP hK a N c q hN (fun w' hb _ => hq w' hb) hqb
end
end Go.Proofs.YtiffkbmcikiioaaGreat
