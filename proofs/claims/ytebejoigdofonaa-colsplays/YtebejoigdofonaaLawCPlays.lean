/-
  The walk of polderlaw06.ColsPlays.
-/
import Derived.Test.YtebejoigdofonaaCg
import Derived.Test.YtebejoigdofonaaCq
import Derived.Test.YtebejoigdofonaaCr
import Derived.Test.YtebejoigdofonaaCv
namespace Go.Proofs.Ytebejoigdofonaa
open Go.RowKit

set_option maxHeartbeats 2000000 in
set_option maxRecDepth 100000 in
theorem walk_ColsPlays (v : Value) (l : List (Int × Int)) (s k t z i : Int) (w : World) (h : Meas w v l s) (hk : I64 k) (ht : I64 t) (hz : (Lit.int .i64 z).wf = true) (hi : (Lit.int .i64 i).wf = true) :
    Calls Try.prog 5 #[v, .agg #[.int .i64 k, .int .i64 t], .int .i64 z, .int .i64 i] w fun e w' => e = .returned (.bool true) ∧ Below w.heap.size w w' := by
  have K1 := h
  obtain ⟨a, n, c, rfl, hg⟩ := id h
  replace K1 := Lib.hid (HeldP.start k t K1)
  have HNn : Hid (l.length = n) := Lib.hid hg.1.2.1
  have hmx := hg.1.1
  unfold maxLen at hmx
  have HK := Lib.hid hk
  have HT := Lib.hid ht
  have HZ := Lib.hid (bounds_i64 hz)
  have HI := Lib.hid (bounds_i64 hi)
  clear h hg hk ht hz hi
  go_enter Try.func5, Try.ntmps5
  go_wp2_with fail
  refine (awake6 _).mono ?_
  rintro e w1 ⟨rfl, b1⟩
  have K2 := Lib.hid (K1.out.next b1)
  clear b1 K1
  have c0 := K2.out.h.c0
  have c1 := K2.out.h.c1
  have p0 := K2.out.p0
  have p1 := K2.out.p1
  have hh100 : (100 < n) ∨ decide ((100 : Int) < (n : Int)) = false := by
    rcases Nat.lt_or_ge 100 n with h | h
    · exact .inl h
    · exact .inr (decide_eq_false (by omega))
  rcases hh100 with hn100 | hn100
  · go_wp2_with fail
    refine (awake6 _).mono ?_
    rintro e w4 ⟨rfl, b4⟩
    go_wp2
    go_ret
    exact ⟨rfl, next K2.out.h.below b4⟩
  go_wp2_with fail
  refine (of_any l s _ _ K2.out.h.m k t z HK.out HT.out HZ.out).mono ?_
  rintro e w2 ⟨v1, er1, rfl, hO1, b2⟩
  have K3 := Lib.hid (K2.out.next b2)
  clear b2 K2 c0 c1 p0 p1
  have c0 := K3.out.h.c0
  have c1 := K3.out.h.c1
  have p0 := K3.out.p0
  have p1 := K3.out.p1
  rcases hO1 with ⟨hno, rfl, rfl⟩ | ⟨k, t, z, rfl, rfl, rfl, hB, rfl, hL⟩
  · have HNO := Lib.hid hno
    clear hno
    go_wp2_with fail
    refine (data_bad l s _ _ K3.out.h.m k t z HK.out HT.out HZ.out HNO.out i HI.out).mono ?_
    rintro e w3 ⟨v3, rfl, ho3, b3⟩
    obtain ⟨a3, c3, rfl⟩ := ho3.none
    have K4 := Lib.hid (K3.out.next b3)
    clear b3 K3 c0 c1 p0 p1 ho3
    have c0 := K4.out.h.c0
    have c1 := K4.out.h.c1
    have p0 := K4.out.p0
    have p1 := K4.out.p1
    have hll : ([] : List C).length = 0 := rfl
    rw [hll]
    clear hll
    go_wp2_with fail
    refine (may_any l s _ _ K4.out.h.m k t z HK.out HT.out HZ.out false HNO.out).mono ?_
    rintro e w5 ⟨rfl, b5⟩
    have K5 := Lib.hid (K4.out.next b5)
    clear b5 K4 c0 c1 p0 p1
    go_wp2_with fail
    refine (rows_nil _).mono ?_
    rintro e w6 ⟨rfl, b6⟩
    go_wp2
    go_ret
    exact ⟨rfl, next K5.out.h.below b6⟩
  have hmay : Hid (mayL l s (k : Int) (t : Int) (z : Int) = true) := Lib.hid (mayL_iff.2 ⟨k, t, z, rfl, rfl, rfl, hB⟩)
  have HB := Lib.hid hB
  have z1 := hB.z1
  have z4 := hB.z4
  obtain ⟨kk, u, hlk, hok⟩ : ∃ (kk : Int) (u : Nat), l[k]'hB.hk = (kk, (u : Int)) ∧ okG (kk, (u : Int)) = true := by
    have hok := hB.right.all k hB.hk
    have hw := okG_wide hok
    exact ⟨(l[k]'hB.hk).1, (l[k]'hB.hk).2.toNat, by rw [Int.toNat_of_nonneg (by omega)], by rw [Int.toNat_of_nonneg (by omega)]; exact hok⟩
  have hDD := hB.devd hlk
  have HDev : Hid (∀ j (h : j < (colsOf l k t z).length), 0 ≤ (colsOf l k t z)[j].dev ∧ (colsOf l k t z)[j].dev < devsL l s) := Lib.hid hB.dev
  have hpos := hB.laid.pos
  have hfew := hB.laid.few
  obtain ⟨ND, hND⟩ : ∃ ND, devsL l s = ND := ⟨_, rfl⟩
  have HND := Lib.hid hND
  have hNDb : 0 ≤ ND ∧ ND ≤ 32 := by
    have h1 := hB.right.bounds l.length (Nat.le_refl _)
    have h2 : devsL l s = aheadL l l.length := by unfold devsL; rw [rightM_iff.2 hB.right, if_pos rfl]
    have h3 := hB.right.few
    omega
  obtain ⟨nd0, nd1⟩ := hNDb
  obtain ⟨N, rfl⟩ := Int.eq_ofNat_of_zero_le nd0
  obtain ⟨L, hLd⟩ : ∃ L, colsOf l k t z = L := ⟨_, rfl⟩
  have HLd := Lib.hid hLd
  rw [hLd] at hDD HDev hpos hfew hL
  obtain ⟨DV, hDV⟩ : ∃ DV, devsS (L.map C.dev) = DV := ⟨_, rfl⟩
  rw [hDV] at hDD
  have HDV := Lib.hid hDV
  have HDpos : Hid (0 < DV.length ∧ DV.length ≤ 32) := Lib.hid ⟨hDD.pos, hDD.few⟩
  obtain ⟨D, hD⟩ : ∃ D, dataOf l k t z i = D := ⟨_, rfl⟩
  have HD := Lib.hid hD
  have hD32 : D.length ≤ 32 := by
    rw [← hD]
    unfold dataOf
    refine Nat.le_trans (heldTo_len _ _ _ _) (Nat.le_trans (List.length_filter_le _ _) ?_)
    rw [hLd]; exact hfew
  have HDok : Hid ((0 < D.length) ↔ (0 ≤ i ∧ i < z)) := Lib.hid (by
    rw [← hD]
    constructor
    · intro h
      rcases ltge i 0 with h1 | h1
      · rw [dataOf, held_none _ _ (by omega) _ (.inl h1)] at h; simp at h
      · rcases ltge i z with h2 | h2
        · exact ⟨h1, h2⟩
        · rw [dataOf, held_none _ _ (by omega) _ (.inr h2)] at h; simp at h
    · rintro ⟨h1, h2⟩
      obtain ⟨i', rfl⟩ := Int.eq_ofNat_of_zero_le h1
      exact held_some _ _ _ (by omega) hB.datas)
  clear hB hND hLd hDV hD hDD hlk
  have HL := Lib.hid hL
  clear hL
  go_wp2_with fail
  refine (data_ok l s _ _ K3.out.h.m k t z HB.out i HI.out D HD.out).mono ?_
  rintro e w3 ⟨v3, rfl, ho3, b3⟩
  have K4 := Lib.hid (K3.out.next b3)
  have HL4 := Lib.hid (HL.out.v.next b3)
  have HD4 := Lib.hid ho3.v
  obtain ⟨okb, hokb⟩ : ∃ okb, decide (0 < D.length) = okb := ⟨_, rfl⟩
  have HOKB := Lib.hid hokb
  rw [hokb]
  clear hokb b3 K3 c0 c1 p0 p1 ho3 HL
  have c0 := K4.out.h.c0
  have c1 := K4.out.h.c1
  have p0 := K4.out.p0
  have p1 := K4.out.p1
  go_wp2_with fail
  refine (may_any l s _ _ K4.out.h.m (k : Int) (t : Int) (z : Int) HK.out HT.out HZ.out true hmay.out).mono ?_
  rintro e w5 ⟨rfl, b5⟩
  have K5 := Lib.hid (K4.out.next b5)
  have HL5 := Lib.hid (HL4.out.next b5)
  have HD5 := Lib.hid (HD4.out.next b5)
  clear b5 K4 c0 c1 p0 p1 HL4 HD4
  have c0 := K5.out.h.c0
  have c1 := K5.out.h.c1
  have p0 := K5.out.p0
  have p1 := K5.out.p1
  go_upto_region 7 with (fail)
  go_cut [99] (fun s99 wc => s99 = .bool false ∧ Hid (Below w5.heap.size w5 wc))
  case first =>
    go_wp2_with fail
    refine (refOf_ok l s _ _ K5.out.h.m k t z HB.out).mono ?_
    rintro e w6 ⟨v6, rfl, ho6, b6⟩
    rw [HLd.out] at ho6
    have HB6 := Lib.hid b6
    have K6 := Lib.hid (K5.out.next b6)
    have HL6 := Lib.hid (HL5.out.next b6)
    have HD6 := Lib.hid (HD5.out.next b6)
    have HR6 := Lib.hid ho6.v
    clear b6 c0 c1 p0 p1 ho6
    go_wp2_with fail
    refine (same_any _ _ _ L L HL6.out HR6.out (by omega) (by omega) true (by simp)).mono ?_
    rintro e w7 ⟨rfl, b7⟩
    have HB7 := Lib.hid (next HB6.out b7)
    have K7 := Lib.hid (K6.out.next b7)
    have HD7 := Lib.hid (HD6.out.next b7)
    clear b7 K6 HL6 HD6 HR6
    have c0 := K7.out.h.c0
    have c1 := K7.out.h.c1
    have p0 := K7.out.p0
    have p1 := K7.out.p1
    have fin : Hid (∀ w', Below w7.heap.size w7 w' → Calls Try.prog 17 #[.agg #[.slice a n c, .int .i64 s], .agg #[.int .i64 (k : Int), .int .i64 (t : Int)], .int .i64 (z : Int), .int .i64 i] w' fun e w'' => ∃ v', e = .returned v' ∧ OwnC w'.heap.size w'' v' D ∧ Below w'.heap.size w' w'') := Lib.hid fun w' hb => refData_ok l s _ _ (K7.out.next hb).h.m k t z HB.out i HI.out D HD.out
    rcases (show i < 0 ∨ (z : Int) ≤ i ∨ (0 ≤ i ∧ i < z) by omega) with hi0 | hi0 | ⟨hi0, hi1⟩
    · obtain rfl : false = okb := by rw [← HOKB.out]; exact (decide_eq_false (by rw [HDok.out]; omega)).symm
      go_wp2_with fail
      refine (fin.out w7 (Below.refl _ _)).mono ?_
      rintro e w8 ⟨v8, rfl, ho8, b8⟩
      have HD8 := Lib.hid (HD7.out.next b8)
      have HO8 := Lib.hid ho8.v
      have HB8 := Lib.hid (next HB7.out b8)
      clear b8 ho8
      go_wp2_with fail
      refine (same_any _ _ _ D D HD8.out HO8.out (by omega) (by omega) true (by simp)).mono ?_
      rintro e w9 ⟨rfl, b9⟩
      go_wp2_with fail
      go_meet
      exact ⟨rfl, Lib.hid (next HB8.out b9)⟩
    · obtain rfl : false = okb := by rw [← HOKB.out]; exact (decide_eq_false (by rw [HDok.out]; omega)).symm
      have hi2 : ¬ i < (z : Int) := by omega
      have hi3 : 0 ≤ i := by omega
      go_wp2_with fail
      refine (fin.out w7 (Below.refl _ _)).mono ?_
      rintro e w8 ⟨v8, rfl, ho8, b8⟩
      have HD8 := Lib.hid (HD7.out.next b8)
      have HO8 := Lib.hid ho8.v
      have HB8 := Lib.hid (next HB7.out b8)
      clear b8 ho8
      go_wp2_with fail
      refine (same_any _ _ _ D D HD8.out HO8.out (by omega) (by omega) true (by simp)).mono ?_
      rintro e w9 ⟨rfl, b9⟩
      go_wp2_with fail
      go_meet
      exact ⟨congrArg Value.bool (decide_eq_false (by omega)), Lib.hid (next HB8.out b9)⟩
    · obtain rfl : true = okb := by rw [← HOKB.out]; exact (decide_eq_true (by rw [HDok.out]; omega)).symm
      go_wp2_with fail
      refine (fin.out w7 (Below.refl _ _)).mono ?_
      rintro e w8 ⟨v8, rfl, ho8, b8⟩
      have HD8 := Lib.hid (HD7.out.next b8)
      have HO8 := Lib.hid ho8.v
      have HB8 := Lib.hid (next HB7.out b8)
      clear b8 ho8
      go_wp2_with fail
      refine (same_any _ _ _ D D HD8.out HO8.out (by omega) (by omega) true (by simp)).mono ?_
      rintro e w9 ⟨rfl, b9⟩
      go_wp2_with fail
      go_meet
      exact ⟨rfl, Lib.hid (next HB8.out b9)⟩
  case rest =>
    obtain ⟨rfl, HBc⟩ := hcut
    have K6 := Lib.hid (K5.out.next HBc.out)
    have HL6 := Lib.hid (HL5.out.next HBc.out)
    clear K5 HL5 HD5 c0 c1 p0 p1
    obtain ⟨g, nL, cL, rfl, hnL, hlt, hC⟩ := HL6.out.some hpos
    have HN := Lib.hid hnL
    have HC := Lib.hid hC
    rw [hnL] at hpos hfew
    clear hnL hC
    go_wp2_with fail
    refine (devs_cols wc _ L HL6.out (by rw [HN.out]; exact hpos) (by rw [HN.out]; omega) DV HDV.out).mono ?_
    rintro e w8 ⟨v8, rfl, hI8, b8⟩
    have HB8 := Lib.hid b8
    have K8 := Lib.hid (K6.out.next b8)
    have HI8 := Lib.hid hI8
    have hlt8 : g < w8.heap.size := Nat.lt_of_lt_of_le hlt b8.size
    have HC8 : Hid (∀ j (h : j < L.length), IsC w8 g (j * 4) L[j]) := Lib.hid fun j h => (HC.out j h).below hlt b8
    clear b8 hI8 K6 HL6 HC hlt
    obtain ⟨da, dn, dc, rfl, hdn, hdc, hdv⟩ := HI8.out
    have HDN := Lib.hid hdn
    have dnp : 0 < dn := by rw [← hdn]; exact HDpos.out.1
    have dn32 : dn ≤ 32 := by rw [← hdn]; exact HDpos.out.2
    obtain ⟨gd, hgd, hCD⟩ : ∃ gd, da = some ⟨gd, 0, none⟩ ∧ gd < w8.heap.size ∧ ∀ j (h : j < DV.length), w8.cell? ⟨gd, j, none⟩ = some (.int .i64 DV[j]) := by
      obtain ⟨gd, e, h1, _⟩ := hdv 0 (by rw [hdn]; exact dnp)
      refine ⟨gd, e, h1, fun j h => ?_⟩
      obtain ⟨g', e', _, h2⟩ := hdv j h
      rw [e] at e'
      cases e'
      exact h2
    subst hgd
    obtain ⟨hlg, hCD⟩ := hCD
    have HCD := Lib.hid hCD
    have HUp : Hid (DV.Pairwise (· < ·) ∧ ∀ x, x ∈ DV ↔ x ∈ L.map C.dev) := Lib.hid (by rw [← HDV.out]; exact devsS_spec _)
    clear hdn hdv hCD
    go_wp2_with fail
    go_loopw [14, 15] (fun i14 i15 wr => ∃ q x : Nat, q ≤ dn ∧ x ≤ N ∧ i14 = .int .i64 (q : Int) ∧ i15 = .int .i64 (x : Int) ∧ Hid (∀ j (h : j < DV.length), j < q → DV[j] < (x : Int)) ∧ Hid (∀ j (h : j < DV.length), q ≤ j → (x : Int) ≤ DV[j]) ∧ Hid (Below w8.heap.size w8 wr)) (fun _ i _ => N - (intOf i).toNat)
    case atStart =>
      refine ⟨0, 0, Nat.zero_le _, Nat.zero_le _, rfl, rfl, Lib.hid fun j _ h => absurd h (Nat.not_lt_zero _), Lib.hid fun j h _ => ?_, Lib.hid (Below.refl _ _)⟩
      obtain ⟨c, hc, e⟩ := List.mem_map.1 ((HUp.out.2 _).1 (List.getElem_mem h))
      obtain ⟨p, hp, rfl⟩ := List.getElem_of_mem hc
      rw [← e]
      exact (HDev.out p hp).1
    case round =>
      obtain ⟨q, x, hq, hx, rfl, rfl, HLo, HHi, HW⟩ := hrel
      have K9 := Lib.hid (K8.out.next HW.out)
      have c0 := K9.out.h.c0
      have c1 := K9.out.h.c1
      go_wp2_with fail
      refine (devs_any l s _ _ K9.out.h.m (N : Int) HND.out).mono ?_
      rintro e w10 ⟨rfl, b10⟩
      have HWA := Lib.hid (next HW.out b10)
      clear b10 c0 c1
      by_cases hxN : x < N
      · go_wp2_with fail
        go_loopw [16, 17] (fun i16 i17 wr => ∃ (j : Nat) (hb : Bool), j ≤ nL ∧ i17 = .int .i64 (j : Int) ∧ i16 = .bool hb ∧ Hid (hb = true ↔ ∃ p, ∃ h : p < L.length, p < j ∧ L[p].dev = (x : Int)) ∧ Hid (Below w8.heap.size w8 wr)) (fun _ i _ => nL - (intOf i).toNat)
        case atStart => exact ⟨0, false, Nat.zero_le _, rfl, rfl, Lib.hid ⟨fun h => (by cases h), fun ⟨_, _, h, _⟩ => absurd h (Nat.not_lt_zero _)⟩, HWA⟩
        case round =>
          obtain ⟨j, hb, hj, rfl, rfl, HHB, HWB⟩ := hrel
          by_cases hjn : j < nL
          · obtain ⟨y, hy⟩ : ∃ y, L[j]'(by rw [HN.out]; exact hjn) = y := ⟨_, rfl⟩
            have HY : Hid (∃ h : j < L.length, L[j] = y) := Lib.hid ⟨_, hy⟩
            clear hy
            have e0 : wr.cell? ⟨g, j * 4, none⟩ = some (.int .i64 y.dev) := by obtain ⟨h, e⟩ := HY.out; rw [← e]; exact ((HC8.out j h).below hlt8 HWB.out).c0
            cases hb with
            | true =>
              have HHB2 : Hid (true = true ↔ ∃ p, ∃ h : p < L.length, p < j + 1 ∧ L[p].dev = (x : Int)) := Lib.hid ⟨fun _ => (by obtain ⟨p, h, h1, h2⟩ := HHB.out.1 rfl; exact ⟨p, h, by omega, h2⟩), fun _ => rfl⟩
              go_wp2
              go_roundw
              case rel => exact ⟨j + 1, true, by omega, by go_num, rfl, HHB2, HWB⟩
              case measure => simp [intOf]; omega
            | false =>
              by_cases hyx : y.dev = (x : Int)
              · have hyb : (y.dev == (x : Int)) = true := by simp [hyx]
                have HHB2 : Hid (true = true ↔ ∃ p, ∃ h : p < L.length, p < j + 1 ∧ L[p].dev = (x : Int)) := Lib.hid ⟨fun _ => (by obtain ⟨h, e⟩ := HY.out; exact ⟨j, h, by omega, by rw [e]; exact hyx⟩), fun _ => rfl⟩
                clear hyx
                go_wp2
                go_roundw
                case rel => exact ⟨j + 1, true, by omega, by go_num, rfl, HHB2, HWB⟩
                case measure => simp [intOf]; omega
              · have hyb : (y.dev == (x : Int)) = false := by simp [hyx]
                have HHB2 : Hid (false = true ↔ ∃ p, ∃ h : p < L.length, p < j + 1 ∧ L[p].dev = (x : Int)) := Lib.hid ⟨fun h => (by cases h), fun ⟨p, h, h1, h2⟩ => by
                  by_cases ep : p = j
                  · subst ep
                    obtain ⟨_, e⟩ := HY.out
                    rw [e] at h2
                    exact absurd h2 hyx
                  · exact HHB.out.2 ⟨p, h, by omega, h2⟩⟩
                clear hyx
                go_wp2
                go_roundw
                case rel => exact ⟨j + 1, false, by omega, by go_num, rfl, HHB2, HWB⟩
                case measure => simp [intOf]; omega
          · obtain rfl : j = nL := by omega
            have HMem : Hid (hb = true ↔ (x : Int) ∈ DV) := Lib.hid (by
              rw [HUp.out.2, HHB.out, List.mem_map]
              constructor
              · rintro ⟨p, h, _, e⟩; exact ⟨_, List.getElem_mem h, e⟩
              · rintro ⟨c, hc, e⟩
                obtain ⟨p, hp, rfl⟩ := List.getElem_of_mem hc
                exact ⟨p, hp, by rw [← HN.out]; exact hp, e⟩)
            cases hb with
            | true =>
              obtain ⟨p, hp, ep⟩ := List.getElem_of_mem (HMem.out.1 rfl)
              have hpq : p = q := by
                rcases Nat.lt_or_ge p q with h | h
                · have := HLo.out p hp h; omega
                · rcases Nat.lt_or_ge q p with h' | h'
                  · have h1 := List.pairwise_iff_getElem.1 HUp.out.1 q p (by omega) hp h'
                    have h2 := HHi.out q (by omega) (Nat.le_refl _)
                    omega
                  · omega
              subst hpq
              have hpd : p < dn := by rw [← HDN.out]; exact hp
              have e1 : wr.cell? ⟨gd, p, none⟩ = some (.int .i64 (x : Int)) := by rw [HWB.out.cell (p := ⟨gd, p, none⟩) hlg, ← ep]; exact HCD.out p hp
              have HPE : Hid (∃ h : p < DV.length, DV[p] = (x : Int)) := Lib.hid ⟨hp, ep⟩
              clear ep hp
              go_wp2
              go_roundw
              case rel =>
                refine ⟨p + 1, x + 1, by omega, by omega, by go_num, by go_num, Lib.hid fun j h hj => ?_, Lib.hid fun j h hj => ?_, HWB⟩
                · by_cases ej : j = p
                  · subst ej; obtain ⟨_, e⟩ := HPE.out; rw [e]; omega
                  · have := HLo.out j h (by omega); omega
                · obtain ⟨hp, e⟩ := HPE.out
                  have := List.pairwise_iff_getElem.1 HUp.out.1 p j hp h (by omega)
                  omega
              case measure => simp [intOf]; omega
            | false =>
              go_wp2
              go_roundw
              case rel =>
                refine ⟨q, x + 1, hq, by omega, rfl, by go_num, Lib.hid fun j h hj => ?_, Lib.hid fun j h hj => ?_, HWB⟩
                · have := HLo.out j h hj; omega
                · have h1 := HHi.out j h hj
                  have h2 : DV[j] ≠ (x : Int) := fun e => (by have := HMem.out.2 (by rw [← e]; exact List.getElem_mem h); cases this)
                  omega
              case measure => simp [intOf]; omega
      · obtain rfl : x = N := by omega
        have hqd : q = dn := by
          rcases Nat.lt_or_ge q dn with h | h
          · have hl : q < DV.length := by rw [HDN.out]; exact h
            have h1 := HHi.out q hl (Nat.le_refl _)
            obtain ⟨c, hc, e⟩ := List.mem_map.1 ((HUp.out.2 _).1 (List.getElem_mem hl))
            obtain ⟨p, hp, rfl⟩ := List.getElem_of_mem hc
            have h2 := (HDev.out p hp).2
            rw [HND.out] at h2
            omega
          · omega
        subst hqd
        go_wp2
        go_ret
        exact ⟨by simp, next K8.out.h.below HWA.out⟩
end Go.Proofs.Ytebejoigdofonaa
