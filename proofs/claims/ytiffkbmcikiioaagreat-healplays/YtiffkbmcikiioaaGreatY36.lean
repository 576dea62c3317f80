/-
  What devices read as behind writing, flushing and a crash (no program is named here).
  few of the laws; code.Bad.
  A crash of a pool's devices; what is read behind it; columns as they are encoded have no bad one.
-/
import Derived.Test.YtiffkbmcikiioaaGreatY31
import Derived.Test.YtiffkbmcikiioaaGreatY03
import Derived.Test.YtiffkbmcikiioaaGreatY29
import Derived.Test.YtiffkbmcikiioaaGreatY24
import Derived.Test.YtiffkbmcikiioaaGreatY16

/- What devices read as behind writing, flushing and a crash (no program is named here). -/
namespace Go.Proofs.YtiffkbmcikiioaaGreat
set_option maxRecDepth 100000
open Go.RowKit Go.Maps M

theorem put_now (S : Dv) (a : Nat) (x : Sec) (b : Nat) : (S.put a x).now b = if b = a then x else S.now b := by
  unfold Dv.now Dv.put
  by_cases e : b = a
  · subst e; simp
  · simp [e]
theorem put_med (S : Dv) (a : Nat) (x : Sec) : (S.put a x).med = S.med ∧ (S.put a x).lost = S.lost := ⟨rfl, rfl⟩
/-- What a sector reads as, behind a column's putting. -/
theorem putD_now (ds : Nat → Dv) (aw : Nat → Bool) (d a : Nat) (s : ByteArray) (d' a' : Nat) : (putD ds aw d a s d').now a' = if hereB ds aw d = true ∧ d' = d ∧ a' = a then s.data.toList else (ds d').now a' := by
  unfold putD
  by_cases h : hereB ds aw d = true
  · rw [if_pos h]
    unfold upd
    by_cases e : d' = d
    · subst e
      rw [if_pos rfl, put_now]
      by_cases e2 : a' = a
      · simp [h, e2]
      · simp [e2]
    · rw [if_neg e]; simp [e]
  · rw [if_neg h]; simp [h]
/-- No two of the columns are the same sector. -/
def ApartN (L : List C) : Prop := ∀ i j, i < L.length → j < L.length → devN L i = devN L j → atN L i = atN L j → i = j
theorem Blk.apartN {l : List (Int × Int)} {sc : Int} {k t z : Nat} (h : Blk l sc k t z) {n : Nat} (hn : devsL l sc = (n : Int)) : ApartN (colsOf l k t z) := by
  have hp := h.puts (s := ⟨(List.replicate (z * 64) (0 : UInt8)).toArray⟩) (by simp [ByteArray.size]) hn
  intro i j hi hj e1 e2
  rcases Nat.lt_trichotomy i j with h1 | h1 | h1
  · exact absurd ⟨by rw [(hp.dev j hj).1, (hp.dev i hi).1, e1], by rw [(hp.at_ j hj).1, (hp.at_ i hi).1, e2]⟩ (h.laid.apart i j hi hj h1)
  · exact h1
  · exact absurd ⟨by rw [(hp.dev j hj).1, (hp.dev i hi).1, e1], by rw [(hp.at_ j hj).1, (hp.at_ i hi).1, e2]⟩ (h.laid.apart j i hj hi h1)
/-- What a sector of a column reads as, behind m columns' writing. -/
theorem wrTo_now {L : List C} (hA : ApartN L) (ds : Nat → Dv) (aw : Nat → Bool) (E : List ByteArray) : ∀ m, m ≤ L.length → ∀ j, j < L.length → (wrTo ds aw L E m (devN L j)).now (atN L j) = if j < m ∧ hereB ds aw (devN L j) = true then (E.getD j ⟨#[]⟩).data.toList else (ds (devN L j)).now (atN L j) := by
  intro m
  induction m with
  | zero => intro _ j _; simp [wrTo]
  | succ m ih =>
    intro hm j hj
    rw [wrTo, putD_now, wrTo_here, ih (by omega) j hj]
    by_cases e : j = m
    · subst e
      by_cases h : hereB ds aw (devN L j) = true
      · simp [h]
      · simp [h]
    · have hne : ¬ (hereB ds aw (devN L m) = true ∧ devN L j = devN L m ∧ atN L j = atN L m) := fun h => e (hA j m hj (by omega) h.2.1 h.2.2)
      rw [if_neg hne]
      by_cases h2 : j < m
      · simp [h2, show j < m + 1 by omega]
      · simp [h2, show ¬ j < m + 1 by omega]
theorem strOf_data (s : ByteArray) : strOf s.data.toList = s := by
  unfold strOf
  cases s with
  | mk d => simp
/-- All devices are here: what was written is read raw as it is encoded. -/
theorem raw_wrote {L : List C} (hA : ApartN L) (ds : Nat → Dv) (aw : Nat → Bool) (E : List ByteArray) (hE : E.length = L.length) (hh : ∀ j, j < L.length → hereB ds aw (devN L j) = true) : rawL (wrTo ds aw L E L.length) aw L = E := by
  apply List.ext_getElem?
  intro j
  by_cases hj : j < L.length
  · rw [rawL, List.getElem?_map, List.getElem?_range hj, List.getElem?_eq_getElem (by omega)]
    simp only [Option.map_some, Option.some.injEq]
    rw [rawAt, wrTo_here, hh j hj, if_pos rfl, wrTo_now hA _ _ _ _ (Nat.le_refl _) j hj, if_pos ⟨hj, hh j hj⟩, strOf_data, List.getD_eq_getElem?_getD, List.getElem?_eq_getElem (by omega)]
    rfl
  · rw [List.getElem?_eq_none (by rw [rawL_len]; omega), List.getElem?_eq_none (by omega)]
/-- None failed. -/
theorem faTo_all {hr : Nat → Bool} {L : List C} : ∀ m, (∀ j, j < m → hr (devN L j) = true) → faTo hr L m = [] := by
  intro m
  induction m with
  | zero => intro _; rfl
  | succ m ih =>
    intro h
    rw [faTo, h m (by omega), if_pos rfl]
    exact ih fun j hj => h j (by omega)
theorem goneN_all {hr : Nat → Bool} : ∀ m, (∀ j, j < m → hr j = true) → goneN hr m = 0 := by
  intro m
  induction m with
  | zero => intro _; rfl
  | succ m ih =>
    intro h
    rw [goneN, h m (by omega), if_pos rfl]
    exact ih fun j hj => h j (by omega)
end Go.Proofs.YtiffkbmcikiioaaGreat

/- few of the laws; code.Bad. -/
namespace Go.Proofs.YtiffkbmcikiioaaGreat
set_option maxRecDepth 100000
open Go.RowKit M

/-- No text of the first k is over 1,000 bytes. -/
def shortTo (l : List ByteArray) (k : Nat) : Prop := ∀ j (h : j < l.length), j < k → l[j].size ≤ 1000

/-- What few answers. -/
def FewV (G : List ByteArray) (v : Value) : Prop := ∃ b, v = .bool b ∧ (b = true → G.length < 100 ∧ ∀ s ∈ G, s.size ≤ 1000)

/-- Are two texts unlike? -/
def neB (s t : ByteArray) : Bool := !(s.toList == t.toList)
theorem eq_of_toList {s t : ByteArray} (h : s.toList = t.toList) : s = t := by
  rw [ByteArray.toList_eq, ByteArray.toList_eq] at h
  exact extL h
theorem neB_false {s t : ByteArray} : neB s t = false ↔ s = t := by
  unfold neB
  rw [Bool.not_eq_false', beq_iff_eq]
  exact ⟨eq_of_toList, fun h => by rw [h]⟩
theorem neB_true {s t : ByteArray} : neB s t = true ↔ s ≠ t := by
  rw [ne_eq, ← neB_false]; cases neB s t <;> simp
/-- The columns among the first k that aren't as they are to be. -/
def badL (E G : List ByteArray) (k : Nat) : List Int := (idx (fun j => neB (G.getD j ⟨#[]⟩) (E.getD j ⟨#[]⟩)) k).map fun (j : Nat) => (j : Int)
theorem badL_yes {E G : List ByteArray} {k : Nat} (h : neB (G.getD k ⟨#[]⟩) (E.getD k ⟨#[]⟩) = true) : badL E G (k + 1) = badL E G k ++ [(k : Int)] := by
  unfold badL; rw [idx_yes h, List.map_append]; rfl
theorem badL_no {E G : List ByteArray} {k : Nat} (h : neB (G.getD k ⟨#[]⟩) (E.getD k ⟨#[]⟩) = false) : badL E G (k + 1) = badL E G k := by
  unfold badL; rw [idx_no h]
theorem badL_len (E G : List ByteArray) (k : Nat) : (badL E G k).length ≤ k := by unfold badL; rw [List.length_map]; exact idx_le _ _
def badOf (l : List (Int × Int)) (sc k t : Int) (s : ByteArray) (G : List ByteArray) : List Int :=
  if mayT l sc k t s.size && fitsL l sc k t ((s.size / 64 : Nat) : Int) G then badL (encOf l k.toNat t.toNat (s.size / 64) s) G (encOf l k.toNat t.toNat (s.size / 64) s).length else []
theorem getD_some {G : List ByteArray} {j : Nat} {y : ByteArray} (h : ∃ h : j < G.length, G[j] = y) : G.getD j ⟨#[]⟩ = y := by
  obtain ⟨h, rfl⟩ := h
  rw [List.getD_eq_getElem?_getD, List.getElem?_eq_getElem h]; rfl

set_option maxHeartbeats 2000000 in
theorem bad_any (l : List (Int × Int)) (sc : Int) (v : Value) (w : World) (h : Meas w v l sc) (k t : Int) (hk : I64 k) (ht : I64 t) (s : ByteArray) (hs : s.size ≤ 1000) (G : List ByteArray) (vG : Value) (hG : Txt w vG G) (hm : G.length ≤ 100000) :
    Calls Tryz.prog 75 #[v, .agg #[.int .i64 k, .int .i64 t], .string s, vG] w fun e w' => ∃ v', e = .returned v' ∧ OwnI w.heap.size w' v' (badOf l sc k t s G) ∧ Below w.heap.size w w' := by
  have K1 := h
  obtain ⟨a, n, c, rfl, hg⟩ := id h
  replace K1 := Lib.hid (HeldP.start k t K1)
  have HC := Lib.hid (encode_any l sc _ _ K1.out.h.m k t hk ht s hs)
  have HG := Lib.hid hG
  obtain ⟨aG, cG, eG, hcG, hjG⟩ := hG
  obtain ⟨N, hN⟩ : ∃ N, s.size = N := ⟨_, rfl⟩
  have HFI : Hid (∀ w1, HeldP w w1 w.heap.size (w.heap.size + 1) a n c sc l k t → Calls Tryz.prog 104 #[.agg #[.slice a n c, .int .i64 sc], .agg #[.int .i64 k, .int .i64 t], .int .i64 ((N / 64 : Nat) : Int), vG] w1 fun e w' => e = .returned (.bool (fitsL l sc k t ((N / 64 : Nat) : Int) G)) ∧ Below w1.heap.size w1 w') :=
    Lib.hid fun w1 hh => fits_any l sc _ w1 hh.h.m k t _ hk ht ⟨by omega, by omega⟩ G vG (HG.out.below hh.h.below) hm
  have q4 : Int.tdiv (N : Int) 64 = ((N / 64 : Nat) : Int) := by rw [Int.tdiv_eq_ediv_of_nonneg (by omega)]; omega
  rw [hN] at hs
  have hq : (N / 64 : Nat) ≤ 1000 := by omega
  generalize hz : N / 64 = z at HFI q4 hq
  generalize hn : G.length = nG at eG hm hcG
  subst eG
  have HN := Lib.hid hn
  have HJG := Lib.hid hjG
  have HBO : Hid (badOf l sc k t s G = if mayT l sc k t s.size && fitsL l sc k t (z : Int) G then badL (encOf l k.toNat t.toNat z s) G (encOf l k.toNat t.toNat z s).length else []) := Lib.hid (by unfold badOf; rw [hN, hz])
  have HZ : Hid (s.size / 64 = z) := Lib.hid (by rw [hN]; exact hz)
  clear h hg hk ht hn hjG hz
  go_enter Tryz.func75, Tryz.ntmps75
  go_wp2_with fail
  refine HC.out.mono ?_
  rintro e w1 ⟨v1, er, rfl, he, b1⟩
  have K2 := Lib.hid (K1.out.next b1)
  have hBs := K1.out.h.below.size
  clear HC b1
  rcases he with ⟨hno, rfl, rfl⟩ | ⟨k', t', z', rfl, rfl, hsz, hB, rfl, hO⟩
  · have HE : Hid (badOf l sc k t s G = []) := Lib.hid (by rw [HBO.out, hno]; rfl)
    clear hno
    go_wp2
    go_ret
    exact ⟨_, rfl, by rw [HE.out]; exact OwnI.nil _ _, K2.out.h.below⟩
  · obtain rfl : z' = z := by have := HZ.out; omega
    have hmT : mayT l sc k' t' s.size = true := mayT_iff.2 ⟨k', t', z', rfl, rfl, hsz, hB⟩
    have HLN : Hid (fitsL l sc k' t' z' G = true → (encOf l k' t' z' s).length = G.length) := Lib.hid (fun h => by
      unfold fitsL at h
      simp only [Bool.and_eq_true, decide_eq_true_iff] at h
      rw [encOf_len]
      exact h.1.2)
    have HP : Hid (0 < (encOf l k' t' z' s).length) := Lib.hid (by rw [encOf_len]; exact hB.laid.pos)
    have HP2 : Hid ((encOf l k' t' z' s).length ≤ 32) := Lib.hid (by rw [encOf_len]; exact hB.laid.few)
    obtain ⟨g1, c1, rfl, hc1, hg1B, hg1, hj1⟩ : ∃ g c, v1 = .slice (some ⟨g, 0, none⟩) (encOf l k' t' z' s).length c ∧ (encOf l k' t' z' s).length ≤ c ∧ w.heap.size ≤ g ∧ g < w1.heap.size ∧ ∀ j (h : j < (encOf l k' t' z' s).length), w1.cell? ⟨g, j, none⟩ = some (.string (encOf l k' t' z' s)[j]) := by
      obtain ⟨g, o, c, e, hc, hg, hj⟩ := hO.txt.isSome HP.out
      rcases hO.2 with ⟨_, h0⟩ | ⟨g', cap, cur, e', hB', _⟩
      · have := HP.out; omega
      · rw [e'] at e
        cases e
        exact ⟨_, _, e', hc, by omega, hg, fun j h => by have := hj j h; rwa [Nat.zero_add] at this⟩
    have HBO2 : Hid (badOf l sc k' t' s G = if fitsL l sc k' t' (z' : Int) G then badL (encOf l k' t' z' s) G (encOf l k' t' z' s).length else []) := Lib.hid (by rw [HBO.out, hmT, Bool.true_and]; rfl)
    clear hmT hO hB HBO
    generalize encOf l k' t' z' s = E at HLN HP HP2 hc1 hj1 HBO2
    generalize hm1 : E.length = m1 at HP2 hc1
    have HE1 := Lib.hid hm1
    have HJ1 := Lib.hid hj1
    have hm0 : 0 < m1 := by rw [← hm1]; exact HP.out
    have hm32 := HP2.out
    clear hm1 hj1 HP HP2
    have HCF := Lib.hid (HFI.out _ K2.out)
    have k0 := K2.out.h.c0
    have k1 := K2.out.h.c1
    have p0 := K2.out.p0
    have p1 := K2.out.p1
    cases hf : fitsL l sc k' t' (z' : Int) G with
    | false =>
      rw [hf] at HCF HBO2
      go_wp2_with fail
      refine HCF.out.mono ?_
      rintro e w2 ⟨rfl, b2⟩
      go_wp2
      go_ret
      exact ⟨_, rfl, by rw [HBO2.out]; exact OwnI.nil _ _, next K2.out.h.below b2⟩
    | true =>
      rw [hf] at HCF HBO2
      have HBO3 : Hid (badOf l sc k' t' s G = badL E G m1) := Lib.hid (by rw [HBO2.out, HE1.out]; rfl)
      clear HBO2
      have hln : m1 = nG := by rw [← HE1.out, ← HN.out]; exact HLN.out hf
      subst hln
      clear hf
      go_wp2_with fail
      refine HCF.out.mono ?_
      rintro e w2 ⟨rfl, b2⟩
      have HW2 := Lib.hid (next K2.out.h.below b2)
      have HJ2 : Hid (∀ j (h : j < E.length), w2.cell? ⟨g1, j, none⟩ = some (.string E[j])) := Lib.hid fun j h => by rw [b2.cell (p := ⟨g1, j, none⟩) hg1]; exact HJ1.out j h
      have hg2 : g1 < w2.heap.size := Nat.lt_of_lt_of_le hg1 b2.size
      clear b2 K2 K1 HJ1 hg1 k0 k1 p0 p1
      go_wp2_with fail
      go_loopw [11, 34] (fun t11 i34 wr => ∃ (j m : Nat) (b : Option Addr) (cc : Nat), j ≤ m1 ∧ m ≤ j ∧ i34 = .int .i64 (j : Int) ∧ t11 = .slice b m cc ∧ Hid (OwnI w2.heap.size wr (.slice b m cc) (badL E G j)) ∧ Hid ((badL E G j).length = m) ∧ Hid (Below w2.heap.size w2 wr)) (fun _ i _ => m1 - (intOf i).toNat)
      case atStart => exact ⟨0, 0, none, 0, Nat.zero_le _, Nat.le_refl _, rfl, rfl, Lib.hid (OwnI.nil _ _), Lib.hid rfl, Lib.hid (Below.refl _ _)⟩
      case round =>
        obtain ⟨j, m, b, cc, hj, hmj, rfl, rfl, HO, HM, HW⟩ := hrel
        have hsr := HW.out.size
        by_cases hjn : j < m1
        · have hjE : j < E.length := by rw [HE1.out]; exact hjn
          have hjG : j < G.length := by rw [HN.out]; exact hjn
          obtain ⟨x, hx⟩ : ∃ x, E[j] = x := ⟨_, rfl⟩
          obtain ⟨y, hy⟩ : ∃ y, G[j] = y := ⟨_, rfl⟩
          have ex := (HW.out.cell (p := ⟨g1, j, none⟩) hg2).trans (HJ2.out j hjE)
          obtain ⟨gy, oy, rfl, hgy, hyc⟩ := HJG.out j hjG
          have ey := (HW.out.cell (p := ⟨gy, oy + j, none⟩) (Nat.lt_of_lt_of_le hgy HW2.out.size)).trans ((HW2.out.cell (p := ⟨gy, oy + j, none⟩) hgy).trans hyc)
          rw [hx] at ex
          rw [hy] at ey
          have HXY : Hid (neB (G.getD j ⟨#[]⟩) (E.getD j ⟨#[]⟩) = neB y x) := Lib.hid (by rw [getD_some ⟨hjG, hy⟩, getD_some ⟨hjE, hx⟩])
          clear hx hy hyc hjE hjG
          cases hne : neB y x with
          | false =>
            have hq1 : (y.toList == x.toList) = true := by unfold neB at hne; simpa using hne
            have hq2 : (y.toList != x.toList) = false := by unfold bne; rw [hq1]; rfl
            have HNX : Hid (badL E G (j + 1) = badL E G j) := Lib.hid (badL_no (by rw [HXY.out]; exact hne))
            clear hne HXY
            go_wp2_with fail
            go_quiet (fail)
            go_wp2
            go_roundw
            case rel => exact ⟨j + 1, m, b, cc, by omega, by omega, by go_num, rfl, Lib.hid (by rw [HNX.out]; exact HO.out.below (below_drewN (Below.refl _ _) _)), Lib.hid (by rw [HNX.out]; exact HM.out), Lib.hid (below_drewN HW.out _)⟩
            case measure => simp [intOf]; omega
          | true =>
            have hq1 : (y.toList == x.toList) = false := by unfold neB at hne; simpa using hne
            have hq2 : (y.toList != x.toList) = true := by unfold bne; rw [hq1]; rfl
            have HNX : Hid (badL E G (j + 1) = badL E G j ++ [(j : Int)]) := Lib.hid (badL_yes (by rw [HXY.out]; exact hne))
            have HM1 : Hid ((badL E G j ++ [(j : Int)]).length = m + 1) := Lib.hid (by rw [List.length_append, HM.out]; rfl)
            have HLE : Hid ((badL E G j).length ≤ 100000) := Lib.hid (by rw [HM.out]; omega)
            clear hne HXY
            go_wp2_with fail
            go_quiet (fail)
            go_wp2_with (at_builtin; refine wpList_append_int _ rfl _ _ rfl w2.heap.size _ _ (j : Int) _ _ rfl rfl ((HO.out.below (below_drewN (Below.refl _ _) _)).below (boxed _ _)) (box_now _ _ _ (by first | rfl | simp)) (by simp; omega) HLE.out ?_; intro v3 w3 hown3 hb3 hs3; obtain ⟨a3, n3, c3, e3, hn3, -⟩ := hown3.v; rw [HM1.out] at hn3; subst hn3; subst e3)
            go_roundw
            case rel => exact ⟨j + 1, m + 1, a3, c3, by omega, by omega, by go_num, rfl, Lib.hid (by rw [HNX.out]; exact hown3), Lib.hid (by rw [HNX.out]; exact HM1.out), Lib.hid ((grows_alloc (below_drewN HW.out _) _).trans hb3)⟩
            case measure => simp [intOf]; omega
        · obtain rfl : j = m1 := by omega
          go_wp2
          go_ret
          refine ⟨_, rfl, ?_, HW2.out.trans (HW.out.mono HW2.out.size)⟩
          rw [HBO3.out]
          exact HO.out.lower HW2.out.size
end Go.Proofs.YtiffkbmcikiioaaGreat

/- A crash of a pool's devices; what is read behind it; columns as they are encoded have no bad one. -/
namespace Go.Proofs.YtiffkbmcikiioaaGreat
set_option maxRecDepth 100000
open Go.RowKit Go.Maps M

theorem crashTo_none (S : Dv) (t : Nat) : S.crashTo [] t = S := by
  induction t with
  | zero => rfl
  | succ t ih => rw [Dv.crashTo, if_neg (by simp), ih]
theorem crash_none (S : Dv) : S.crash [] = { S.bare with fused := false } := by
  unfold Dv.crash
  rw [crashTo_none]
theorem crash_now (S : Dv) (a : Nat) : (S.crash []).now a = S.med.getD a [] := by
  rw [crash_none]
  simp [Dv.now, Dv.bare]
theorem flush_med (S : Dv) (a : Nat) (h : a < S.med.length) : S.flush.med.getD a [] = S.now a := by
  unfold Dv.flush
  simp only
  rw [List.getD_eq_getElem?_getD, List.getElem?_map, List.getElem?_range h]
  rfl
theorem putD_med (ds : Nat → Dv) (aw : Nat → Bool) (d a : Nat) (s : ByteArray) (i : Nat) : (putD ds aw d a s i).med = (ds i).med := by
  unfold putD
  split
  · unfold upd
    split
    · rename_i e; subst e; rfl
    · rfl
  · rfl
theorem wrTo_med (ds : Nat → Dv) (aw : Nat → Bool) (L : List C) (E : List ByteArray) (m i : Nat) : (wrTo ds aw L E m i).med = (ds i).med := by
  induction m with
  | zero => rfl
  | succ m ih => rw [wrTo, putD_med, ih]
/-- The devices, of which the first j crashed. -/
def crTo (ds : Nat → Dv) (j i : Nat) : Dv := if i < j then (ds i).crash [] else ds i
theorem crTo_zero (ds : Nat → Dv) : crTo ds 0 = ds := by funext i; simp [crTo]
theorem crTo_succ (ds : Nat → Dv) (j : Nat) : upd (crTo ds j) j ((crTo ds j j).crash []) = crTo ds (j + 1) := by
  funext i
  unfold upd crTo
  by_cases e : i = j
  · subst e; simp
  · rw [if_neg e]
    by_cases h2 : i < j
    · simp [h2, show i < j + 1 by omega]
    · simp [h2, show ¬ i < j + 1 by omega]
theorem crTo_at (ds : Nat → Dv) (j : Nat) : crTo ds j j = ds j := by simp [crTo]
theorem crash_lost_eq (S : Dv) : (S.crash []).lost = S.lost := by rw [crash_none]; rfl
section
variable {X : Nat → Prop} {B : Nat} {w : World} {x : Px} {l : List (Int × Int)} {ds : Nat → Dv} {aw : Nat → Bool} {K : Nat} {P : World → Prop}
end
theorem badL_same (E : List ByteArray) : ∀ n, badL E E n = [] := by
  intro n
  induction n with
  | zero => rfl
  | succ n ih => rw [badL_no (neB_false.2 rfl), ih]
/-- A block's columns as they are encoded: they fit, and none is bad. -/
theorem Blk.whole {l : List (Int × Int)} {sc : Int} {k t z : Nat} (h : Blk l sc k t z) {s : ByteArray} (hs : s.size = z * 64) : fitsL l sc k t z (encOf l k t z s) = true ∧ badOf l sc k t s (encOf l k t z s) = [] := by
  obtain ⟨kk, u, hE⟩ := h.enc7 hs
  have hsz : ∀ x ∈ encL (colsOf l k t z) (fun i => sect s (i % z)), x.size = 0 ∨ x.size = 64 := fun x hx => .inr (encL_size hE.sound hE.hf x hx)
  have hf := hE.fits (encL_len _ _) hsz
  rw [hE.enc]
  refine ⟨hf, ?_⟩
  unfold badOf
  have hz : s.size / 64 = z := by rw [hs, Nat.mul_div_cancel _ (by decide)]
  rw [mayT_iff.2 ⟨k, t, z, rfl, rfl, hs, h⟩, hz, hf]
  show badL (encOf l k t z s) _ (encOf l k t z s).length = []
  rw [hE.enc]
  exact badL_same _ _
/-- What was written, flushed, written over and crashed is read as it was flushed. -/
theorem raw_crash {L : List C} {n : Nat} {sc : Int} {E E2 : List ByteArray} (hP : Puts n sc L E) (hA : ApartN L) (D : Dv) (hD : D.lost = false) (hlen : (D.med.length : Int) = sc) :
    rawL (crTo (wrTo (flTo (wrTo (fun _ => D) (fun _ => false) L E L.length) (fun _ => false) n) (fun _ => false) L E2 L.length) n) (fun _ => false) L = E := by
  have hl1 : ∀ i, (wrTo (fun _ => D) (fun _ => false) L E L.length i).lost = false := fun i => by
    have := congrFun (wrTo_here (fun _ => D) (fun _ => false) L E L.length) i
    unfold hereB at this
    simpa [hD] using this
  apply List.ext_getElem?
  intro j
  by_cases hj : j < L.length
  · rw [rawL, List.getElem?_map, List.getElem?_range hj, List.getElem?_eq_getElem (by rw [hP.len]; exact hj)]
    simp only [Option.map_some, Option.some.injEq]
    obtain ⟨_, hd⟩ := hP.dev j hj
    obtain ⟨_, ha⟩ := hP.at_ j hj
    have hl2 : ∀ i, (flTo (wrTo (fun _ => D) (fun _ => false) L E L.length) (fun _ => false) n i).lost = false := fun i => by
      unfold flTo
      split
      · exact hl1 i
      · exact hl1 i
    have hl3 : (wrTo (flTo (wrTo (fun _ => D) (fun _ => false) L E L.length) (fun _ => false) n) (fun _ => false) L E2 L.length (devN L j)).lost = false := by
      have := congrFun (wrTo_here (flTo (wrTo (fun _ => D) (fun _ => false) L E L.length) (fun _ => false) n) (fun _ => false) L E2 L.length) (devN L j)
      unfold hereB at this
      simpa [hl2] using this
    have hh : hereB (crTo (wrTo (flTo (wrTo (fun _ => D) (fun _ => false) L E L.length) (fun _ => false) n) (fun _ => false) L E2 L.length) n) (fun _ => false) (devN L j) = true := by
      unfold hereB crTo
      rw [if_pos hd, crash_lost_eq, hl3]
      rfl
    have hh1 : hereB (wrTo (fun _ => D) (fun _ => false) L E L.length) (fun _ => false) (devN L j) = true := by
      unfold hereB
      rw [hl1]
      rfl
    have hh0 : hereB (fun _ => D) (fun _ => false) (devN L j) = true := by simp [hereB, hD]
    rw [rawAt, hh, if_pos rfl, crTo, if_pos hd, crash_now, wrTo_med, flTo, if_pos ⟨hd, hh1⟩, flush_med _ _ (by rw [wrTo_med]; omega), wrTo_now hA _ _ _ _ (Nat.le_refl _) j hj, if_pos ⟨hj, hh0⟩, strOf_data, List.getD_eq_getElem?_getD, List.getElem?_eq_getElem (by rw [hP.len]; exact hj)]
    rfl
  · rw [List.getElem?_eq_none (by rw [rawL_len]; omega), List.getElem?_eq_none (by rw [hP.len]; omega)]
end Go.Proofs.YtiffkbmcikiioaaGreat
