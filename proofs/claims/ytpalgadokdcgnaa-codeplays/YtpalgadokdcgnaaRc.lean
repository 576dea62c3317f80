/-
  The document's Encode (polderref07): the walk.
-/
import Derived.Test.YtpalgadokdcgnaaRb
namespace Go.Proofs.Ytpalgadokdcgnaa
set_option maxRecDepth 100000
open Go.RowKit M

def encTo (L : List C) (f : Nat → ByteArray) (i : Nat) : List ByteArray := (List.range i).map (encAt L f)
theorem encTo_succ (L : List C) (f : Nat → ByteArray) (i : Nat) : encTo L f (i + 1) = encTo L f i ++ [encAt L f i] := by unfold encTo; rw [List.range_succ, List.map_append]; rfl
theorem encTo_len (L : List C) (f : Nat → ByteArray) (i : Nat) : (encTo L f i).length = i := by simp [encTo]
def runTo (f : Nat → ByteArray) (n q : Nat) : List ByteArray := (List.range q).map fun p => f (n + p)
theorem runTo_succ (f : Nat → ByteArray) (n q : Nat) : runTo f n (q + 1) = runTo f n q ++ [f (n + q)] := by unfold runTo; rw [List.range_succ, List.map_append]; rfl
theorem runTo_len (f : Nat → ByteArray) (n q : Nat) : (runTo f n q).length = q := by simp [runTo]

set_option maxHeartbeats 8000000 in
theorem refEncode_any (l : List (Int × Int)) (sc : Int) (v : Value) (w : World) (h : Meas w v l sc) (k t z : Nat) (s : ByteArray) (kk : Int) (u : Nat) (L : List C) (f : Nat → ByteArray) (hE : Enc7 l sc k t z s kk u L f) :
    Calls Try.prog 19 #[v, .agg #[.int .i64 (k : Int), .int .i64 (t : Int)], .string s] w fun e w' => ∃ v', e = .returned v' ∧ Own w' w.heap.size v' (encL L f) ∧ Below w.heap.size w w' := by
  have K1 := h
  obtain ⟨a, n, c, rfl, hg⟩ := id h
  replace K1 := Lib.hid (HeldP.start (k : Int) (t : Int) K1)
  have hs4 : s.size ≤ 256 := by have := hE.hs; have := hE.blk.z4; omega
  have hcz : z ≤ 4 := hE.blk.z4
  have hcz1 := hE.blk.z1
  have q4 : Int.tdiv (s.size : Int) 64 = (z : Int) := by rw [Int.tdiv_eq_ediv_of_nonneg (by omega)]; have := hE.hs; omega
  have HOF := Lib.hid (refOf_any l sc _ _ K1.out.h.m k t z hE.blk)
  rw [hE.hL] at HOF
  obtain ⟨hm0, hm32⟩ := hE.few
  obtain ⟨m, hm⟩ : ∃ m, L.length = m := ⟨_, rfl⟩
  rw [hm] at hm0 hm32
  have HML := Lib.hid hm
  have HE := Lib.hid hE
  have hszs : z * 64 = s.size := hE.hs.symm
  obtain ⟨S, hS⟩ : ∃ S, s.size = S := ⟨_, rfl⟩
  rw [hS] at q4 hs4 hszs
  have r3 : ¬ (z : Int) = 0 := by omega
  have r4 : ((z : Int) == 0) = false := by simp; omega
  clear h hg hE hm
  go_enter Try.func19, Try.ntmps19
  go_wp2_with fail
  refine HOF.out.mono ?_
  rintro e w2 ⟨v2, rfl, hO2, b2⟩
  obtain ⟨g6, cc6, rfl, hcc6, hg6B, hA6⟩ := OwnC.some hO2 (by rw [HML.out]; exact hm0)
  rw [HML.out] at hcc6 ⊢
  have HA6 := Lib.hid hA6
  have hg6 := hA6.lt
  have HW2 := Lib.hid (next K1.out.h.below b2)
  clear hO2 hA6 b2 K1 HOF
  go_wp2_with fail
  go_loopw [8, 9, 10] (fun t8 t9 i10 wr => ∃ (i d : Nat) (b : Option Addr) (cc : Nat), i ≤ m ∧ d ≤ i ∧ t8 = .slice b i cc ∧ t9 = .int .i64 (d : Int) ∧ i10 = .int .i64 (i : Int) ∧ Hid (dct L i = d) ∧ Hid (Own wr w2.heap.size (.slice b i cc) (encTo L f i)) ∧ Hid (Below w2.heap.size w2 wr)) (fun _ _ i _ => m - (intOf i).toNat)
  case atStart => exact ⟨0, 0, none, 0, Nat.zero_le _, Nat.le_refl _, rfl, rfl, rfl, Lib.hid (by simp [dct]), Lib.hid (World.ownsRow_nil _ _ _ _), Lib.hid (Below.refl _ _)⟩
  case round =>
    obtain ⟨i, d, b, cc, hi, hdi, rfl, rfl, rfl, HD, HO, HW⟩ := hrel
    have hsr := HW.out.size
    by_cases him : i < m
    · have hiL : i < L.length := by rw [HML.out]; exact him
      obtain ⟨x, hx⟩ : ∃ x, L[i] = x := ⟨_, rfl⟩
      have hCx := (HA6.out.at_ i hiL).below hg6 HW.out
      rw [hx] at hCx
      obtain ⟨e0, e1, e2, e3⟩ := hCx
      have HPX : Hid (parAt L i = x.par) := Lib.hid (by rw [parAt_eq hiL, hx])
      have HRX : Hid (rowAt L i = x.row) := Lib.hid (by rw [rowAt_eq hiL, hx])
      have HIL := Lib.hid hiL
      have HM1 : Hid ((encTo L f i ++ [encAt L f i]).length = i + 1) := Lib.hid (by rw [List.length_append, encTo_len]; rfl)
      clear hx hiL
      cases hp : x.par with
      | false =>
        rw [hp] at e2
        obtain ⟨y, hy⟩ : ∃ y, encAt L f i = y := ⟨_, rfl⟩
        have hd1 : dct L (i + 1) = d + 1 := by rw [dct_succ HIL.out, ← parAt_eq HIL.out, HPX.out, hp, HD.out]; rfl
        have HD1 := Lib.hid hd1
        obtain ⟨q, hq⟩ : ∃ q, d % z = q := ⟨_, rfl⟩
        have hqz : q < z := by rw [← hq]; exact Nat.mod_lt _ hcz1
        have r1 : Int.tmod (d : Int) (z : Int) = (q : Int) := by rw [Int.tmod_eq_emod_of_nonneg (by omega), ← hq]; rfl
        have HYS : Hid (s.extract (64 * q) (64 * q + 64) = y) := Lib.hid (by
          rw [← hy]
          unfold encAt
          rw [HPX.out, hp, HD.out]
          have h1 := HE.out.mod (d / z) q hqz
          have h2 : d / z * z + q = d := by rw [← hq, Nat.mul_comm]; exact Nat.div_add_mod d z
          rw [h2] at h1
          show _ = f d
          rw [h1]
          unfold sect
          congr 1 <;> omega)
        have a1 : (64 * (q : Int)).toNat = 64 * q := by omega
        have a2 : (64 * (q : Int) + 64).toNat = 64 * q + 64 := by omega
        have a3 : 64 * (q : Int) + 64 ≤ (S : Int) := by omega
        have a4 : IntKind.i64.wrap (64 * (q : Int)) = 64 * (q : Int) := by rw [IntKind.wrap_i64]; omega
        have a5 : IntKind.i64.wrap (64 * (q : Int) + 64) = 64 * (q : Int) + 64 := by rw [IntKind.wrap_i64]; omega
        have HNX : Hid (encTo L f (i + 1) = encTo L f i ++ [y]) := Lib.hid (by rw [encTo_succ, hy])
        rw [hy] at HM1
        clear hp HPX HRX hy hd1 hq
        go_wp2_with (first | (at_builtin; refine wpList_append_txt _ rfl _ _ rfl w2.heap.size _ _ _ [y] _ (i + 1) rfl rfl rfl HM1.out (HO.out.alloc _) (by rw [HYS.out]; exact txt_at _ y _ (by simp)) (by simp; omega) (by omega) ?_; intro b4 c4 w4 hO4 b04 s4))
        go_roundw
        case rel => exact ⟨i + 1, d + 1, b4, c4, by omega, by omega, rfl, by go_num, by go_num, HD1, Lib.hid (by rw [HNX.out]; exact hO4), Lib.hid ((grows_alloc HW.out _).trans b04)⟩
        case measure => simp [intOf]; omega
      | true =>
        rw [hp] at e2
        have hk1 : kk = 1 := by
          rcases HE.out.kind.ok with h0 | h1
          · have := HE.out.noPar h0.1 HIL.out
            rw [HPX.out, hp] at this
            cases this
          · exact h1.1
        have hd1 : dct L (i + 1) = d := by rw [dct_succ HIL.out, ← parAt_eq HIL.out, HPX.out, hp, HD.out]; rfl
        have HD1 := Lib.hid hd1
        have hm6 : m ≤ 6 := by rw [← HML.out]; exact HE.out.six hk1
        have HK1 := Lib.hid hk1
        have HPP : Hid (parAt L i = true) := Lib.hid (by rw [HPX.out]; exact hp)
        obtain ⟨r, hr⟩ : ∃ r, x.row = r := ⟨_, rfl⟩
        rw [hr] at e3 HRX
        clear hp HPX hd1 hk1 hr
        go_wp2_with fail
        rename World => w7
        go_loopw [11, 12] (fun t11 i12 wr => ∃ (q : Nat) (b' : Option Addr) (cc' : Nat), i + 1 + q ≤ m ∧ t11 = .slice b' q cc' ∧ i12 = .int .i64 (q : Int) ∧ Hid (∀ p, p < q → contL L i p = true) ∧ Hid (Own wr w7.heap.size (.slice b' q cc') (runTo f d q)) ∧ Hid (Below w7.heap.size w7 wr)) (fun _ i _ => m - (intOf i).toNat)
        case atStart => exact ⟨0, none, 0, by omega, rfl, rfl, Lib.hid (fun p hp => absurd hp (Nat.not_lt_zero _)), Lib.hid (World.ownsRow_nil _ _ _ _), Lib.hid (Below.refl _ _)⟩
        case round =>
          obtain ⟨q, b', cc', hq, rfl, rfl, HC, HOQ, HV⟩ := hrel
          have hsv := HV.out.size
          have HWV := Lib.hid (next HW.out HV.out)
          obtain ⟨J, hJ⟩ : ∃ J, i + 1 + q = J := ⟨_, rfl⟩
          have w1 : IntKind.i64.wrap ((i : Int) + 1) = (i : Int) + 1 := by rw [IntKind.wrap_i64]; omega
          have w2' : IntKind.i64.wrap ((i : Int) + 1 + (q : Int)) = (J : Int) := by rw [IntKind.wrap_i64]; omega
          have e3' := (HV.out.cell (p := ⟨g6, i * 4 + 3, none⟩) (by show g6 < w7.heap.size; omega)).trans e3
          by_cases hJm : J < m
          · have hJL : J < L.length := by rw [HML.out]; exact hJm
            have hd0 : decide ((J : Int) < (m : Int)) = true := decide_eq_true (by omega)
            obtain ⟨x', hx'⟩ : ∃ x', L[J] = x' := ⟨_, rfl⟩
            have hCx' := (HA6.out.at_ J hJL).below hg6 HWV.out
            rw [hx'] at hCx'
            obtain ⟨f0, f1, f2, f3⟩ := hCx'
            have HCT : Hid (contL L i q = ((x'.row == r) && !x'.par)) := Lib.hid (by
              unfold contL
              rw [hJ, HRX.out, rowAt_eq hJL, parAt_eq hJL, hx', decide_eq_true hJL, Bool.true_and])
            have hgw : g6 < wr.heap.size := by omega
            clear hx' hJL
            cases hrb : (x'.row == r) with
            | false =>
              have HCN : Hid (contL L i q = false) := Lib.hid (by rw [HCT.out, hrb]; rfl)
              clear HCT
              go_wp2_with fail
              go_quiet (fail)
              have HRO : Hid (rowD L f (rowAt L i) L.length = runTo f d q) := Lib.hid (by
                have := HE.out.follow HK1.out HIL.out HPP.out (by omega) HC.out HCN.out
                rw [HD.out] at this
                exact this)
              have HOKL : Hid (okL (runTo f d q) = true) := Lib.hid (by rw [← HRO.out]; exact ok_of (rowD_sz HE.out.hf) (HE.out.rowNe HK1.out HIL.out))
              have HYV : Hid (encAt L f i = parB (runTo f d q)) := Lib.hid (by
                unfold encAt
                rw [HPP.out, if_pos rfl, HRO.out, (mk_ok HOKL.out).1])
              have HXO := Lib.hid (refXor_any (runTo f d q) (.slice b' q cc') _ (HOQ.out.txt.below (below_drewN (Below.refl _ _) nq)) (by rw [runTo_len]; unfold maxLen; omega) HOKL.out (fun s hs => by
                obtain ⟨p, _, rfl⟩ := List.mem_map.1 hs
                rw [HE.out.hf]
                decide))
              generalize parB (runTo f d q) = y at HYV HXO
              have HNX : Hid (encTo L f (i + 1) = encTo L f i ++ [y]) := Lib.hid (by rw [encTo_succ, HYV.out])
              have HM2 : Hid ((encTo L f i ++ [y]).length = i + 1) := Lib.hid (by rw [List.length_append, encTo_len]; rfl)
              go_wp2_with fail
              refine HXO.out.mono ?_
              rintro e w9 ⟨rfl, c9⟩
              have HB9 : Hid (Below w7.heap.size w7 w9) := Lib.hid (next (below_drewN HV.out _) c9)
              have hs9 := HB9.out.size
              have HO9 := Lib.hid (HO.out.below HB9.out)
              clear c9
              go_wp2_with (first | (at_builtin; refine wpList_append_txt _ rfl _ _ rfl w2.heap.size _ _ _ [y] _ (i + 1) rfl rfl rfl HM2.out (HO9.out.alloc _) (txt_at _ y _ (by simp)) (by simp; omega) (by omega) ?_; intro b4 c4 w4 hO4 b04 s4))
              go_roundw
              case rel => exact ⟨i + 1, d, b4, c4, by omega, by omega, rfl, rfl, by go_num, HD1, Lib.hid (by rw [HNX.out]; exact hO4), Lib.hid ((grows_alloc (next HW.out HB9.out) _).trans b04)⟩
              case measure => simp [intOf]; omega
            | true =>
              cases hpb : x'.par with
              | true =>
                rw [hpb] at f2
                have HCN : Hid (contL L i q = false) := Lib.hid (by rw [HCT.out, hrb, hpb]; rfl)
                clear HCT
                go_wp2_with fail
                go_quiet (fail)
                have HRO : Hid (rowD L f (rowAt L i) L.length = runTo f d q) := Lib.hid (by
                  have := HE.out.follow HK1.out HIL.out HPP.out (by omega) HC.out HCN.out
                  rw [HD.out] at this
                  exact this)
                have HOKL : Hid (okL (runTo f d q) = true) := Lib.hid (by rw [← HRO.out]; exact ok_of (rowD_sz HE.out.hf) (HE.out.rowNe HK1.out HIL.out))
                have HYV : Hid (encAt L f i = parB (runTo f d q)) := Lib.hid (by
                  unfold encAt
                  rw [HPP.out, if_pos rfl, HRO.out, (mk_ok HOKL.out).1])
                have HXO := Lib.hid (refXor_any (runTo f d q) (.slice b' q cc') _ (HOQ.out.txt.below (below_drewN (Below.refl _ _) nq)) (by rw [runTo_len]; unfold maxLen; omega) HOKL.out (fun s hs => by
                  obtain ⟨p, _, rfl⟩ := List.mem_map.1 hs
                  rw [HE.out.hf]
                  decide))
                generalize parB (runTo f d q) = y at HYV HXO
                have HNX : Hid (encTo L f (i + 1) = encTo L f i ++ [y]) := Lib.hid (by rw [encTo_succ, HYV.out])
                have HM2 : Hid ((encTo L f i ++ [y]).length = i + 1) := Lib.hid (by rw [List.length_append, encTo_len]; rfl)
                go_wp2_with fail
                refine HXO.out.mono ?_
                rintro e w9 ⟨rfl, c9⟩
                have HB9 : Hid (Below w7.heap.size w7 w9) := Lib.hid (next (below_drewN HV.out _) c9)
                have hs9 := HB9.out.size
                have HO9 := Lib.hid (HO.out.below HB9.out)
                clear c9
                go_wp2_with (first | (at_builtin; refine wpList_append_txt _ rfl _ _ rfl w2.heap.size _ _ _ [y] _ (i + 1) rfl rfl rfl HM2.out (HO9.out.alloc _) (txt_at _ y _ (by simp)) (by simp; omega) (by omega) ?_; intro b4 c4 w4 hO4 b04 s4))
                go_roundw
                case rel => exact ⟨i + 1, d, b4, c4, by omega, by omega, rfl, rfl, by go_num, HD1, Lib.hid (by rw [HNX.out]; exact hO4), Lib.hid ((grows_alloc (next HW.out HB9.out) _).trans b04)⟩
                case measure => simp [intOf]; omega
              | false =>
                rw [hpb] at f2
                have HCY : Hid (∀ p, p < q + 1 → contL L i p = true) := Lib.hid fun p hp => by
                  by_cases e : p = q
                  · subst e; rw [HCT.out, hrb, hpb]; rfl
                  · exact HC.out p (by omega)
                have hdq := HE.out.inData HK1.out HIL.out HPP.out HCY.out
                rw [HD.out] at hdq
                obtain ⟨D', hD'⟩ : ∃ D', d + q = D' := ⟨_, rfl⟩
                rw [hD'] at hdq
                have w3 : IntKind.i64.wrap ((d : Int) + (q : Int)) = (D' : Int) := by rw [IntKind.wrap_i64]; omega
                have w4 : IntKind.i64.wrap ((D' : Int) + 1) = (D' : Int) + 1 := by rw [IntKind.wrap_i64]; omega
                have w5 : IntKind.i64.wrap (64 * (D' : Int)) = 64 * (D' : Int) := by rw [IntKind.wrap_i64]; omega
                have w6 : IntKind.i64.wrap (64 * ((D' : Int) + 1)) = 64 * ((D' : Int) + 1) := by rw [IntKind.wrap_i64]; omega
                have a1 : (64 * (D' : Int)).toNat = 64 * D' := by omega
                have a2 : (64 * ((D' : Int) + 1)).toNat = 64 * D' + 64 := by omega
                have a3 : 64 * ((D' : Int) + 1) ≤ (S : Int) := by omega
                have a4 : 64 * (D' : Int) ≤ 64 * ((D' : Int) + 1) := by omega
                have HYS : Hid (s.extract (64 * D') (64 * D' + 64) = f D') := Lib.hid (by
                  rw [HE.out.sec D' hdq]
                  unfold sect
                  congr 1 <;> omega)
                have HNX : Hid (runTo f d (q + 1) = runTo f d q ++ [f D']) := Lib.hid (by rw [runTo_succ, hD'])
                generalize f D' = y at HYS HNX
                have HM2 : Hid ((runTo f d q ++ [y]).length = q + 1) := Lib.hid (by rw [List.length_append, runTo_len]; rfl)
                clear HCT hD'
                go_wp2_with fail
                go_quiet (fail)
                go_wp2_with (first | (at_builtin; refine wpList_append_txt _ rfl _ _ rfl w7.heap.size _ _ _ [y] _ (q + 1) rfl rfl rfl HM2.out ((HOQ.out.below (below_drewN (Below.refl _ _) _)).alloc _) (by rw [HYS.out]; exact txt_at _ y _ (by simp)) (by simp; omega) (by omega) ?_; intro b4 c4 w4 hO4 b04 s4))
                go_roundw
                case rel => exact ⟨q + 1, b4, c4, by omega, rfl, by go_num, HCY, Lib.hid (by rw [HNX.out]; exact hO4), Lib.hid (((below_drewN HV.out _).alloc (by simp; omega) _).trans b04)⟩
                case measure => simp [intOf]; omega
          · have hd0 : decide ((J : Int) < (m : Int)) = false := decide_eq_false (by omega)
            have HCN : Hid (contL L i q = false) := Lib.hid (by
              unfold contL
              rw [hJ, HML.out, decide_eq_false hJm]
              rfl)
            go_wp2_with fail
            go_quiet (fail)
            have HRO : Hid (rowD L f (rowAt L i) L.length = runTo f d q) := Lib.hid (by
              have := HE.out.follow HK1.out HIL.out HPP.out (by omega) HC.out HCN.out
              rw [HD.out] at this
              exact this)
            have HOKL : Hid (okL (runTo f d q) = true) := Lib.hid (by rw [← HRO.out]; exact ok_of (rowD_sz HE.out.hf) (HE.out.rowNe HK1.out HIL.out))
            have HYV : Hid (encAt L f i = parB (runTo f d q)) := Lib.hid (by
              unfold encAt
              rw [HPP.out, if_pos rfl, HRO.out, (mk_ok HOKL.out).1])
            have HXO := Lib.hid (refXor_any (runTo f d q) (.slice b' q cc') _ (HOQ.out.txt.below (below_drewN (Below.refl _ _) nq)) (by rw [runTo_len]; unfold maxLen; omega) HOKL.out (fun s hs => by
              obtain ⟨p, _, rfl⟩ := List.mem_map.1 hs
              rw [HE.out.hf]
              decide))
            generalize parB (runTo f d q) = y at HYV HXO
            have HNX : Hid (encTo L f (i + 1) = encTo L f i ++ [y]) := Lib.hid (by rw [encTo_succ, HYV.out])
            have HM2 : Hid ((encTo L f i ++ [y]).length = i + 1) := Lib.hid (by rw [List.length_append, encTo_len]; rfl)
            go_wp2_with fail
            refine HXO.out.mono ?_
            rintro e w9 ⟨rfl, c9⟩
            have HB9 : Hid (Below w7.heap.size w7 w9) := Lib.hid (next (below_drewN HV.out _) c9)
            have hs9 := HB9.out.size
            have HO9 := Lib.hid (HO.out.below HB9.out)
            clear c9
            go_wp2_with (first | (at_builtin; refine wpList_append_txt _ rfl _ _ rfl w2.heap.size _ _ _ [y] _ (i + 1) rfl rfl rfl HM2.out (HO9.out.alloc _) (txt_at _ y _ (by simp)) (by simp; omega) (by omega) ?_; intro b4 c4 w4 hO4 b04 s4))
            go_roundw
            case rel => exact ⟨i + 1, d, b4, c4, by omega, by omega, rfl, rfl, by go_num, HD1, Lib.hid (by rw [HNX.out]; exact hO4), Lib.hid ((grows_alloc (next HW.out HB9.out) _).trans b04)⟩
            case measure => simp [intOf]; omega
    · obtain rfl : i = m := by omega
      go_wp2
      go_ret
      refine ⟨_, rfl, ?_, HW2.out.trans (HW.out.mono HW2.out.size)⟩
      have e : encTo L f i = encL L f := by unfold encTo encL; rw [HML.out]
      rw [← e]
      exact HO.out.lower HW2.out.size
end Go.Proofs.Ytpalgadokdcgnaa
