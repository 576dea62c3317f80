/-
  The walk of polderlaw07.CodePar: it returns true, and writes nothing that was there.
-/
import Derived.Test.YtpalgadokdcgnaaMe
namespace Go.Proofs.Ytpalgadokdcgnaa
set_option maxRecDepth 100000
open Go.RowKit M

/-- A text over and over. -/
def repB (s : ByteArray) : Nat → ByteArray
  | 0 => ⟨#[]⟩
  | n + 1 => s ++ repB s n
theorem appB_size (s t : ByteArray) : (s ++ t).size = s.size + t.size := by rw [ByteArray.size_append]
theorem repB_size (s : ByteArray) (n : Nat) : (repB s n).size = n * s.size := by
  induction n with
  | zero => simp [repB]; rfl
  | succ n ih => rw [repB, appB_size, ih, Nat.succ_mul, Nat.add_comm]
theorem repB_head (s : ByteArray) (n : Nat) : (repB s (n + 1)).extract 0 s.size = s := by
  apply extL
  rw [repB, ByteArray.data_extract, Array.toList_extract, ByteArray.data_append, Array.toList_append, List.extract_eq_take_drop, sizeL]
  simp
theorem repB_tail (s : ByteArray) (n : Nat) : (repB s (n + 1)).extract s.size (repB s (n + 1)).size = repB s n := by
  have h : (repB s (n + 1)).size = s.size + (repB s n).size := by rw [repB, appB_size]
  rw [h]
  apply extL
  rw [repB, ByteArray.data_extract, Array.toList_extract, ByteArray.data_append, Array.toList_append, List.extract_eq_take_drop, sizeL, sizeL]
  simp
  rw [sizeL, List.take_length]
/-- The data columns' texts among the first k, one behind the other. -/
def textTo (L : List C) (f : Nat → ByteArray) (k : Nat) : ByteArray := joinB ((List.range (dct L k)).map f)
theorem textTo_zero (L : List C) (f : Nat → ByteArray) : textTo L f 0 = ⟨#[]⟩ := rfl
theorem textTo_par {L : List C} {f : Nat → ByteArray} {k : Nat} (hk : k < L.length) (h : parAt L k = true) : textTo L f (k + 1) = textTo L f k := by
  unfold textTo
  rw [dct_succ hk, ← parAt_eq hk, h]
  rfl
theorem textTo_data {L : List C} {f : Nat → ByteArray} {k : Nat} (hk : k < L.length) (h : parAt L k = false) : textTo L f (k + 1) = textTo L f k ++ encAt L f k := by
  unfold textTo encAt
  rw [dct_succ hk, ← parAt_eq hk, h]
  simp [List.range_succ, joinB_snoc]
theorem textTo_size {L : List C} {f : Nat → ByteArray} (hf : ∀ i, (f i).size = 64) (k : Nat) : (textTo L f k).size = dct L k * 64 := by
  unfold textTo
  rw [joinB_size (n := 64) fun s hs => by obtain ⟨i, _, rfl⟩ := List.mem_map.1 hs; exact hf i]
  simp
theorem joinB_app (l m : List ByteArray) : joinB (l ++ m) = joinB l ++ joinB m := extL (by rw [joinB_list, ByteArray.data_append, Array.toList_append, joinB_list, joinB_list]; simp)
section
variable {l : List (Int × Int)} {sc : Int} {k t z : Nat} {s : ByteArray} {kk : Int} {u : Nat} {L : List C} {f : Nat → ByteArray}
theorem Enc7.textP (h : Enc7 l sc k t z s kk u L f) (h1 : kk = 1) : textTo L f L.length = s := by
  unfold textTo
  rw [h.dataN h1]
  exact h.joined
theorem Enc7.textM (h : Enc7 l sc k t z s kk u L f) (h0 : kk = 0) : textTo L f L.length = repB s u := by
  unfold textTo
  rw [h.dctM h0 _ (Nat.le_refl _), (h.mir h0).2.1]
  have key : ∀ n, joinB ((List.range (n * z)).map f) = repB s n := by
    intro n
    induction n with
    | zero => simp [repB, joinB]
    | succ n ih =>
      have e : List.range ((n + 1) * z) = List.range (n * z) ++ (List.range z).map (n * z + ·) := by rw [Nat.succ_mul, List.range_add]
      rw [e, List.map_append, joinB_app, ih, List.map_map]
      have e2 : (List.range z).map (f ∘ (n * z + ·)) = (List.range z).map f := List.map_congr_left fun i hi => by
        have hi := List.mem_range.1 hi
        show f (n * z + i) = f i
        rw [h.mod n i hi, h.sec i hi]
      rw [e2, h.joined]
      clear e e2 ih
      induction n with
      | zero => exact extL (by simp [repB])
      | succ n ih =>
        show s ++ repB s n ++ s = s ++ repB s (n + 1)
        rw [← ih]
        exact extL (by simp)
  exact key u
end

set_option maxHeartbeats 4000000 in
theorem walk_CodePar (v : Value) (l : List (Int × Int)) (sc k t : Int) (s : ByteArray) (w : World) (h : Meas w v l sc) (hk : I64 k) (ht : I64 t) (hs : s.size ≤ maxLen) :
    Calls Try.prog 7 #[v, .agg #[.int .i64 k, .int .i64 t], .string s] w fun e w' => e = .returned (.bool true) ∧ Below w.heap.size w w' := by
  unfold maxLen at hs
  have K1 := h
  obtain ⟨a, n, c, rfl, hg⟩ := id h
  replace K1 := Lib.hid (HeldP.start k t K1)
  have HI := Lib.hid hk
  have HT := Lib.hid ht
  clear h hg hk ht
  go_enter Try.func7, Try.ntmps7
  go_wp2_with fail
  refine (cawake_any _).mono ?_
  rintro e w1 ⟨rfl, c1⟩
  have K2 := Lib.hid (K1.out.next c1)
  clear c1 K1
  have k0 := K2.out.h.c0
  have k1 := K2.out.h.c1
  go_wp2_with fail
  refine (cfew_any l sc _ _ K2.out.h.m [] _ ⟨none, 0, rfl, Nat.le_refl _, fun j hj => absurd hj (Nat.not_lt_zero _)⟩ (by decide) (fun s hs => by cases hs)).mono ?_
  rintro e w2 ⟨v2, rfl, ⟨b, rfl, -⟩, c2⟩
  have K3 := Lib.hid (K2.out.next c2)
  clear c2 K2 k0 k1
  by_cases hgo : b = true ∧ s.size ≤ 1000
  · obtain ⟨rfl, hs1⟩ := hgo
    have k0 := K3.out.h.c0
    have k1 := K3.out.h.c1
    have p0 := K3.out.p0
    have p1 := K3.out.p1
    go_wp2_with fail
    refine (encode_any l sc _ _ K3.out.h.m k t HI.out HT.out s hs1).mono ?_
    rintro e w4 ⟨v4, er, rfl, he, c4⟩
    have K5 := Lib.hid (K3.out.next c4)
    clear c4 k0 k1 p0 p1 K3
    rcases he with ⟨-, rfl, rfl⟩ | ⟨k', t', z', rfl, rfl, hsz, hB, rfl, hO⟩
    · go_wp2
      go_ret
      exact ⟨rfl, K5.out.h.below⟩
    · obtain ⟨kk, u, hE⟩ := hB.enc7 hsz
      rw [hE.enc] at hO
      have HOF := Lib.hid (of_ok l sc _ _ K5.out.h.m k' t' z' hB)
      generalize hL : colsOf l k' t' z' = L at hE hO HOF
      generalize (fun i => sect s (i % z')) = f at hE hO
      obtain ⟨hm0, hm32⟩ := hE.few
      have hEl := encL_len L f
      obtain ⟨m, hm⟩ : ∃ m, L.length = m := ⟨_, rfl⟩
      rw [hm] at hm0 hm32 hEl
      have HEL := Lib.hid hEl
      have HE := Lib.hid hE
      have HML := Lib.hid hm
      obtain ⟨a4, cc4, e4, -⟩ := hO.txt
      rw [hEl] at e4
      subst e4
      obtain ⟨g4, rfl, _, hg4, _, hcc4, _, hcl4⟩ := hO.at_ (by omega)
      have HCL4 := Lib.hid hcl4
      have hcz : z' ≤ 4 := hB.z4
      have hcz1 := hB.z1
      have q4 : Int.tdiv (s.size : Int) 64 = (z' : Int) := by rw [Int.tdiv_eq_ediv_of_nonneg (by omega)]; omega
      clear hcl4 hO hE hB hL hEl hm hsz
      have k0 := K5.out.h.c0
      have k1 := K5.out.h.c1
      have p0 := K5.out.p0
      have p1 := K5.out.p1
      go_wp2_with fail
      refine HOF.out.mono ?_
      rintro e w6 ⟨v6, rfl, hO6, c6⟩
      obtain ⟨g6, n6, cc6, rfl, hn6, hg6, hC6⟩ := hO6.v.some (by rw [HML.out]; exact hm0)
      rw [HML.out] at hn6
      subst hn6
      have HC6 := Lib.hid hC6
      have HT6 : Hid (∀ j (h : j < (encL L f).length), w6.cell? ⟨g4, j, none⟩ = some (.string (encL L f)[j])) := Lib.hid fun j h => by rw [c6.cell (p := ⟨g4, j, none⟩) hg4]; exact HCL4.out j h
      have hg46 : g4 < w6.heap.size := Nat.lt_of_lt_of_le hg4 c6.size
      have K7 := Lib.hid (K5.out.next c6)
      clear hO6 hC6 c6 K5 k0 k1 p0 p1 HCL4 hg4
      go_wp2_with fail
      go_loopw [11, 12] (fun t11 i12 wr => ∃ (i : Nat) (T : ByteArray), i ≤ m ∧ i12 = .int .i64 (i : Int) ∧ t11 = .string T ∧ Hid (textTo L f i = T) ∧ Hid (Below w6.heap.size w6 wr)) (fun _ i _ => m - (intOf i).toNat)
      case atStart => exact ⟨0, _, Nat.zero_le _, rfl, rfl, Lib.hid (textTo_zero L f), Lib.hid (Below.refl _ _)⟩
      case round =>
        obtain ⟨i, T, hi, rfl, rfl, HTT, HW⟩ := hrel
        have hsr := HW.out.size
        by_cases him : i < m
        · have hiL : i < L.length := by rw [HML.out]; exact him
          obtain ⟨x, hx⟩ : ∃ x, L[i] = x := ⟨_, rfl⟩
          have hCx := (HC6.out i hiL).below hg6 HW.out
          rw [hx] at hCx
          obtain ⟨e0, e1, e2, e3⟩ := hCx
          have hiE : i < (encL L f).length := by rw [HEL.out]; exact him
          have hy := (HW.out.cell (p := ⟨g4, i, none⟩) hg46).trans (HT6.out i hiE)
          rw [encL_get] at hy
          have HPX : Hid (parAt L i = x.par) := Lib.hid (by rw [parAt_eq hiL, hx])
          have HRX : Hid (rowAt L i = x.row) := Lib.hid (by rw [rowAt_eq hiL, hx])
          have HIL := Lib.hid hiL
          have HYS : Hid ((encAt L f i).size = 64) := Lib.hid (enc_size HE.out.sound HE.out.hf i hiL)
          have hTs : T.size ≤ i * 64 := by rw [← HTT.out, textTo_size HE.out.hf]; exact Nat.mul_le_mul_right _ (dct_le L i)
          clear hx hiL hiE
          cases hp : x.par with
          | false =>
            rw [hp] at e2
            have HNX : Hid (textTo L f (i + 1) = T ++ encAt L f i) := Lib.hid (by rw [textTo_data HIL.out (by rw [HPX.out]; exact hp), HTT.out])
            have hys := HYS.out
            generalize encAt L f i = y at hy HNX hys
            clear hp
            go_wp2
            go_roundw
            case rel => exact ⟨i + 1, T ++ y, by omega, by go_num, rfl, HNX, HW⟩
            case measure => simp [intOf]; omega
          | true =>
            rw [hp] at e2
            have HNX : Hid (textTo L f (i + 1) = T) := Lib.hid (by rw [textTo_par HIL.out (by rw [HPX.out]; exact hp), HTT.out])
            have HYP : Hid (encAt L f i = mkB (rowD L f x.row m)) := Lib.hid (by unfold encAt; rw [HPX.out, hp, if_pos rfl, HRX.out, HML.out])
            have HNE : Hid (rowD L f x.row m ≠ []) := Lib.hid (by
              rw [← HRX.out, ← HML.out]
              intro e
              exact HE.out.sound.data i HIL.out (by rw [HPX.out]; exact hp) (List.map_eq_nil_iff.1 e))
            generalize encAt L f i = y at hy HYP HYS
            obtain ⟨r, hr⟩ : ∃ r, x.row = r := ⟨_, rfl⟩
            rw [hr] at e3 HYP HNE
            clear hp HPX HRX hr
            go_wp2_with fail
            rename World => w7
            go_loopw [13, 14] (fun t13 i14 wr => ∃ (j q : Nat) (b : Option Addr) (cc : Nat), j ≤ m ∧ q ≤ j ∧ i14 = .int .i64 (j : Int) ∧ t13 = .slice b q cc ∧ Hid (Own wr w7.heap.size (.slice b q cc) (rowD L f r j)) ∧ Hid ((rowD L f r j).length = q) ∧ Hid (Below w7.heap.size w7 wr)) (fun _ i _ => m - (intOf i).toNat)
            case atStart => exact ⟨0, 0, none, 0, Nat.zero_le _, Nat.le_refl _, rfl, rfl, Lib.hid (World.ownsRow_nil _ _ _ _), Lib.hid rfl, Lib.hid (Below.refl _ _)⟩
            case round =>
              obtain ⟨j, q, b, cc, hj, hqj, rfl, rfl, HO, HQ, HV⟩ := hrel
              have hsv := HV.out.size
              have HWV := Lib.hid (next HW.out HV.out)
              by_cases hjm : j < m
              · have hjL : j < L.length := by rw [HML.out]; exact hjm
                have hjE : j < (encL L f).length := by rw [HEL.out]; exact hjm
                obtain ⟨x', hx'⟩ : ∃ x', L[j] = x' := ⟨_, rfl⟩
                have hCx' := (HC6.out j hjL).below hg6 HWV.out
                rw [hx'] at hCx'
                obtain ⟨f0, f1, f2, f3⟩ := hCx'
                have e3' := (HV.out.cell (p := ⟨g6, i * 4 + 3, none⟩) (by show g6 < w7.heap.size; omega)).trans e3
                have hy' := (HWV.out.cell (p := ⟨g4, j, none⟩) hg46).trans (HT6.out j hjE)
                rw [encL_get] at hy'
                have HPX : Hid (parAt L j = x'.par) := Lib.hid (by rw [parAt_eq hjL, hx'])
                have HRX : Hid (rowAt L j = x'.row) := Lib.hid (by rw [rowAt_eq hjL, hx'])
                have hlw : g6 < wr.heap.size := by omega
                have hl4 : g4 < wr.heap.size := by omega
                clear hx' hjL hjE
                cases hp : x'.par with
                | true =>
                  rw [hp] at f2
                  have HRN : Hid (rowD L f r (j + 1) = rowD L f r j) := Lib.hid (rowD_no (.inl (by rw [HPX.out]; exact hp)))
                  cases hrb : (x'.row == r) with
                  | true =>
                    go_wp2_with fail
                    go_quiet (fail)
                    go_wp2
                    go_roundw
                    case rel => exact ⟨j + 1, q, b, cc, by omega, by omega, by go_num, rfl, Lib.hid (by rw [HRN.out]; exact HO.out.below (below_drewN (Below.refl _ _) _)), Lib.hid (by rw [HRN.out]; exact HQ.out), Lib.hid (below_drewN HV.out _)⟩
                    case measure => simp [intOf]; omega
                  | false =>
                    go_wp2_with fail
                    go_quiet (fail)
                    go_wp2
                    go_roundw
                    case rel => exact ⟨j + 1, q, b, cc, by omega, by omega, by go_num, rfl, Lib.hid (by rw [HRN.out]; exact HO.out.below (below_drewN (Below.refl _ _) _)), Lib.hid (by rw [HRN.out]; exact HQ.out), Lib.hid (below_drewN HV.out _)⟩
                    case measure => simp [intOf]; omega
                | false =>
                  rw [hp] at f2
                  cases hrb : (x'.row == r) with
                  | true =>
                    have HRN : Hid (rowD L f r (j + 1) = rowD L f r j ++ [encAt L f j]) := Lib.hid (by
                      rw [rowD_yes (by rw [HPX.out]; exact hp) (by rw [HRX.out]; exact beq_iff_eq.1 hrb)]
                      unfold encAt
                      rw [HPX.out, hp]
                      rfl)
                    generalize encAt L f j = y' at hy' HRN
                    have HM1 : Hid ((rowD L f r j ++ [y']).length = q + 1) := Lib.hid (by rw [List.length_append, HQ.out]; rfl)
                    go_wp2_with fail
                    go_quiet (fail)
                    go_wp2_with (at_builtin; refine wpList_append_txt _ rfl _ _ rfl w7.heap.size _ _ _ [y'] _ (q + 1) rfl rfl rfl HM1.out ((HO.out.below (below_drewN (Below.refl _ _) _)).alloc _) (txt_at _ y' _ (by simp)) (by simp; omega) (by omega) ?_; intro b4 c4 w4 hO4 b04 s4)
                    go_roundw
                    case rel => exact ⟨j + 1, q + 1, b4, c4, by omega, by omega, by go_num, rfl, Lib.hid (by rw [HRN.out]; exact hO4), Lib.hid (by rw [HRN.out]; exact HM1.out), Lib.hid (((below_drewN HV.out _).alloc (by simp; omega) _).trans b04)⟩
                    case measure => simp [intOf]; omega
                  | false =>
                    have HRN : Hid (rowD L f r (j + 1) = rowD L f r j) := Lib.hid (rowD_no (.inr (by rw [HRX.out]; exact beq_eq_false_iff_ne.1 hrb)))
                    go_wp2_with fail
                    go_quiet (fail)
                    go_wp2
                    go_roundw
                    case rel => exact ⟨j + 1, q, b, cc, by omega, by omega, by go_num, rfl, Lib.hid (by rw [HRN.out]; exact HO.out.below (below_drewN (Below.refl _ _) _)), Lib.hid (by rw [HRN.out]; exact HQ.out), Lib.hid (below_drewN HV.out _)⟩
                    case measure => simp [intOf]; omega
              · obtain rfl : j = m := by omega
                have hyv := (HV.out.cell (p := ⟨g4, i, none⟩) (by show g4 < w7.heap.size; omega)).trans hy
                have HOK : Hid ((okL (rowD L f r j) && decide (y = parB (rowD L f r j))) = true) := Lib.hid (by
                  have hok := ok_of (rowD_sz HE.out.hf) HNE.out
                  rw [HYP.out, (mk_ok hok).1, hok]
                  simp)
                have HRI := Lib.hid (pright_any y (rowD L f r j) (.slice b q cc) wr HO.out.txt (by rw [HQ.out]; unfold maxLen; omega) (fun s hs => by rw [rowD_sz HE.out.hf s hs]; decide) true HOK.out)
                go_wp2_with fail
                refine HRI.out.mono ?_
                rintro e w9 ⟨rfl, c9⟩
                go_wp2
                go_roundw
                case rel => exact ⟨i + 1, T, by omega, by go_num, rfl, HNX, Lib.hid (next HWV.out c9)⟩
                case measure => simp [intOf]; omega
        · obtain rfl : i = m := by omega
          have K8 := Lib.hid (K7.out.next HW.out)
          obtain ⟨hh, p0, p1, plt⟩ := K8.out
          have hkl := HE.out.blk.hk
          have hlk : l[k'] = (kk, (u : Int)) := by rw [← getD_at hkl]; exact HE.out.kind.grp
          have hnl := hh.len
          have hkn : k' < n := by rw [← hnl.1]; exact hkl
          have hn9 := hnl.2
          have hk4 := HE.out.blk.bounds.2
          obtain ⟨gg, og, rfl, hlt, e0, e1⟩ := hh.at_ hkl hlk
          have c0 := hh.c0
          have HTL : Hid (textTo L f L.length = T) := Lib.hid (by rw [HML.out]; exact HTT.out)
          have HSZ : Hid (s.size = z' * 64) := Lib.hid HE.out.hs
          dsimp only at e0 e1
          have HK7 := Lib.hid K7.out.h.below
          clear hh hnl hkl hlk K7 HTT
          rcases HE.out.kind.ok with ⟨hk0, hu1, hu8, -⟩ | ⟨hk1, -⟩
          · have HT0 : Hid (T = repB s u) := Lib.hid (by rw [← HTL.out]; exact HE.out.textM hk0)
            subst hk0
            clear HTL HE
            go_wp2_with fail
            have hs0 : 0 < s.size := by rw [HSZ.out]; omega
            go_loopw [11] (fun t11 wv => ∃ r : Nat, 1 ≤ r ∧ r ≤ u ∧ t11 = .string (repB s r) ∧ Hid (Below w6.heap.size w6 wv)) (fun t _ => match t with | .string T => T.size | _ => 0)
            case atStart => exact ⟨u, hu1, Nat.le_refl _, by rw [HT0.out], HW⟩
            case round =>
              obtain ⟨r, hr1, hru, rfl, HV⟩ := hrel
              obtain ⟨r', rfl⟩ : ∃ r', r = r' + 1 := ⟨r - 1, by omega⟩
              have hR := repB_size s (r' + 1)
              by_cases hr : r' = 0
              · subst hr
                have he : repB s 1 = s := extL (by simp [repB])
                rw [he]
                clear hR he
                go_wp2
                go_ret
                exact ⟨by simp, next HK7.out HV.out⟩
              · have hhd := repB_head s r'
                have htl := repB_tail s r'
                have hRs : s.size < (repB s (r' + 1)).size := by
                  rw [hR]
                  obtain ⟨q, rfl⟩ : ∃ q, r' = q + 1 := ⟨r' - 1, by omega⟩
                  rw [Nat.succ_mul, Nat.succ_mul]
                  have := Nat.zero_le (q * s.size)
                  omega
                have hRb : (repB s (r' + 1)).size ≤ 100000 := by
                  rw [hR]
                  exact Nat.le_trans (Nat.mul_le_mul (by omega : r' + 1 ≤ 8) hs1) (by decide)
                obtain ⟨X, hX⟩ : ∃ X, repB s (r' + 1) = X := ⟨_, rfl⟩
                rw [hX] at hhd htl hRs hRb ⊢
                have HXS : Hid ((repB s r').size < X.size) := Lib.hid (by rw [← hX, repB, appB_size]; omega)
                have heq : ((X.extract 0 s.size).toList == s.toList) = true := by rw [hhd]; simp
                have HTL := Lib.hid htl
                clear hX hR htl hhd
                go_wp2
                go_roundw
                case rel => exact ⟨r', by omega, by omega, by rw [← HTL.out], HV⟩
                case measure => (show (X.extract s.size X.size).size < X.size); rw [HTL.out]; exact HXS.out
          · have HT1 : Hid (T = s) := Lib.hid (by rw [← HTL.out]; exact HE.out.textP hk1)
            subst hk1
            obtain rfl := HT1.out
            clear HTL HE HT1
            go_wp2
            go_ret
            exact ⟨by simp, K8.out.h.below⟩
  · cases b with
    | false =>
      go_wp2_with fail
      refine (cawake_any _).mono ?_
      rintro e w4 ⟨rfl, c4⟩
      go_wp2
      go_ret
      exact ⟨rfl, next K3.out.h.below c4⟩
    | true =>
      have hs1 : ¬ s.size ≤ 1000 := fun h => hgo ⟨rfl, h⟩
      go_wp2_with fail
      refine (cawake_any _).mono ?_
      rintro e w4 ⟨rfl, c4⟩
      go_wp2
      go_ret
      exact ⟨rfl, next K3.out.h.below c4⟩
end Go.Proofs.Ytpalgadokdcgnaa
