/-
  The walk of polderlaw04.DevVersions.
-/
import Derived.Test.YtmkheikllbjcbaaDs
namespace Go.Proofs.Ytmkheikllbjcbaa
open Go.RowKit Go.Maps

/-- Bytes that came in. -/
def Byts (B : Nat) (w : World) (a : Option Addr) (l : List UInt8) : Prop := ∀ j, j < l.length → ∃ g o, a = some ⟨g, o, none⟩ ∧ g < B ∧ w.cell? ⟨g, o + j, none⟩ = some (.int .u8 ((l.getD j 0).toNat : Int))
theorem Byts.below {B : Nat} {w w' : World} {a : Option Addr} {l : List UInt8} (h : Byts B w a l) (hb : Below B w w') : Byts B w' a l := fun j hj => by
  obtain ⟨g, o, rfl, hg, hc⟩ := h j hj
  exact ⟨g, o, rfl, hg, by rw [hb.cell (p := ⟨g, o + j, none⟩) hg]; exact hc⟩
theorem byts_row {W : World} {a : Option Addr} {len cap : Nat} {zs : List Int} (h : IsRow .u8 W a len cap zs) : ∃ l : List UInt8, l.length = len ∧ Byts W.heap.size W a l := by
  refine ⟨(List.range len).map fun j => UInt8.ofNat (zs.getD j 0).toNat, by simp, fun j hj => ?_⟩
  have hj' : j < len := by simpa using hj
  obtain ⟨b, off, rfl, hb, hc, hw⟩ := h.at_ j hj'
  obtain ⟨c, hc'⟩ := u8_of hw
  refine ⟨b, off, rfl, hb, ?_⟩
  rw [hc, hc']
  simp only [List.getD_eq_getElem?_getD, List.getElem?_map, List.getElem?_range hj', Option.map_some, Option.getD_some]
  rw [← List.getD_eq_getElem?_getD, hc']
  simp
def VersRel (B b : Nat) (l : List UInt8) (w : World) (u : Value) (wr : World) : Prop :=
  ∃ t S, t ≤ l.length ∧ u = .int .i64 ((t : Nat) : Int) ∧ DevL B wr b S ∧ Calm S ∧ S.med = [fullS 0] ∧ S.since 0 = (l.take t).map fullS ∧ S.cnt ≤ t ∧ Below B w wr
def FoundRel (B : Nat) (l : List UInt8) (c : UInt8) (w : World) (v u : Value) (wr : World) : Prop :=
  ∃ t f, t ≤ l.length ∧ u = .int .i64 ((t : Nat) : Int) ∧ v = .bool f ∧ ((c = 0 ∨ ∃ j, j < t ∧ l.getD j 0 = c) → f = true) ∧ Below B w wr

set_option maxRecDepth 100000 in
set_option maxHeartbeats 2000000 in
theorem walk_DevVersions (a : Option Addr) (len cap : Nat) (zs : List Int) (n : Int) (w : World) (hr : IsRow .u8 w a len cap zs) (_hn : (Lit.int .i64 n).wf = true) :
    Calls Try.prog 4 #[.slice a len cap, .int .i64 n] w fun e w' => e = .returned (.bool true) ∧ Below w.heap.size w w' := by
  have hlen := hr.len_le
  obtain ⟨l, hll, hB⟩ := byts_row hr
  unfold maxLen at hlen
  clear hr _hn
  by_cases h80 : 80 < len
  · have d1 : decide ((80 : Int) < (len : Int)) = true := by simp; omega
    go_enter Try.func4, Try.ntmps4
    go_wp2_with fail
    (with_reducible refine (awake_any _).mono ?_)
    rintro e w1 ⟨rfl, b1⟩
    go_wp2_with fail
    (with_reducible refine (awake_any _).mono ?_)
    rintro e w2 ⟨rfl, b2⟩
    go_wp2
    go_ret
    exact ⟨rfl, early b1 b1.size b2⟩
  have d1 : decide ((80 : Int) < (len : Int)) = false := by simp; omega
  have HLL := Lib.hid hll
  have HB := Lib.hid hB
  clear hll hB
  go_enter Try.func4, Try.ntmps4
  go_wp2_with fail
  (with_reducible refine (awake_any _).mono ?_)
  rintro e w1 ⟨rfl, b1⟩
  go_wp2_with fail
  refine (newL 1 w.heap.size _ (by omega) (by omega) b1.size).mono ?_
  rintro e w2 ⟨b, rfl, h2, b2⟩
  have hrel0 : VersRel w.heap.size b l w (.int .i64 0) w2 := ⟨0, _, Nat.zero_le _, rfl, h2, new_calm 1, rfl, rfl, Nat.le_refl _, b1.trans b2⟩
  clear h2 b1 b2
  go_wp2_with fail
  go_loopw [7] (fun u wr => VersRel w.heap.size b l w u wr) (fun u _ => len - (intOf u).toNat)
  case atStart => exact hrel0
  case round =>
    obtain ⟨t, S, ht, rfl, hd, hcalm, hmed, hsin, hcnt, hb⟩ := hrel
    clear hrel0
    rw [HLL.out] at ht
    by_cases hlt : t < len
    · obtain ⟨g, o, rfl, hg, hcell⟩ := HB.out.below hb t (by rw [HLL.out]; exact hlt)
      have F := fun w => full_any (l.getD t 0) w
      have W := fun w4 (b4 : Below wr.heap.size wr w4) => writeL w.heap.size b S ((0 : Nat) : Int) (fullS (l.getD t 0)) w4 (hd.below b4) (Nat.le_trans hb.size b4.size) (fullS_len _) (by omega)
      have hm1 : S.med.length = 1 := by rw [hmed]; rfl
      rw [(hcalm.write (j := 0) (by omega) (fullS (l.getD t 0))).1, (hcalm.write (j := 0) (by omega) []).2] at W
      have hS2 : Hid (Calm (S.put 0 (fullS (l.getD t 0))) ∧ (S.put 0 (fullS (l.getD t 0))).med = [fullS 0] ∧ (S.put 0 (fullS (l.getD t 0))).since 0 = (l.take (t + 1)).map fullS ∧ (S.put 0 (fullS (l.getD t 0))).cnt ≤ t + 1) := by
        refine ⟨⟨hcalm.lost, hcalm.fused⟩, hmed, ?_, by show S.cnt + 1 ≤ t + 1; omega⟩
        show S.since 0 ++ [fullS (l.getD t 0)] = _
        rw [hsin, List.take_succ_eq_append_getElem (by rw [HLL.out]; exact hlt), List.map_append, List.getD_eq_getElem?_getD, List.getElem?_eq_getElem (by rw [HLL.out]; exact hlt)]
        rfl
      clear hmed hsin hcnt hcalm hm1 hd
      generalize S.put 0 (fullS (l.getD t 0)) = S2 at *
      generalize strOf (fullS (l.getD t 0)) = st at *
      generalize l.getD t 0 = fc at *
      go_wp2_with fail
      (with_reducible refine (F _).mono ?_)
      rintro e w4 ⟨rfl, b4⟩
      have b5 := early hb hb.size b4
      have W := W w4 b4
      rw [show ((0 : Nat) : Int) = 0 from rfl] at W
      go_wp2_with fail
      (with_reducible refine W.mono ?_)
      rintro e w5 ⟨rfl, h5, b6⟩
      clear W F hcell
      go_wp2
      go_roundw
      case rel => exact ⟨t + 1, S2, by rw [HLL.out]; omega, by go_num, h5, hS2.out.1, hS2.out.2.1, hS2.out.2.2.1, hS2.out.2.2.2, b5.trans b6⟩
      case measure => simp [intOf]; omega
    · obtain rfl : t = len := by omega
      have C := crash_lit w.heap.size b S n wr hd hb.size hcalm.lost (by omega)
      have hin := crash_in hd.ok [n] 0
      rw [hmed, hsin, List.take_of_length_le (by rw [HLL.out]; exact Nat.le_refl _)] at hin
      obtain ⟨c, hc1, hc2⟩ : ∃ c : UInt8, (S.crash [n]).now 0 = fullS c ∧ (c = 0 ∨ ∃ j, j < t ∧ l.getD j 0 = c) := by
        rcases List.mem_cons.1 hin with e | e
        · exact ⟨0, e, .inl rfl⟩
        · obtain ⟨c, hc, e⟩ := List.mem_map.1 e
          obtain ⟨j, hj, hjc⟩ := List.getElem_of_mem hc
          exact ⟨c, e.symm, .inr ⟨j, by rw [← HLL.out]; exact hj, by rw [List.getD_eq_getElem?_getD, List.getElem?_eq_getElem hj]; exact hjc⟩⟩
      have hlen1 : (S.crash [n]).med.length = 1 := by rw [crash_len, hmed]; rfl
      have R := fun w4 (h4 : DevL w.heap.size w4 b (S.crash [n])) => readL w.heap.size b _ ((0 : Nat) : Int) w4 h4
      rw [(crash_calm hcalm.lost [n]).read (by omega), hc1] at R
      have F0 := fun w => (show Calls Try.prog 14 #[.int .u8 0] w _ from full_any 0 _)
      have HF := Lib.hid (fun (c : UInt8) w => full_any c w)
      have HC2 := Lib.hid hc2
      clear hc1 hc2 hin hlen1 hmed hsin hcnt hcalm hd ht hlt
      generalize S.crash [n] = S6 at *
      go_wp2_with fail
      (with_reducible refine C.mono ?_)
      rintro e w4 ⟨rfl, h4, b4⟩
      have b5 := hb.trans b4
      have R := R w4 h4
      rw [show ((0 : Nat) : Int) = 0 from rfl] at R
      clear C
      go_wp2_with fail
      (with_reducible refine R.mono ?_)
      rintro e w5 ⟨rfl, rfl⟩
      clear R
      go_wp2_with fail
      (with_reducible refine (F0 _).mono ?_)
      rintro e w5 ⟨rfl, b6⟩
      have b7 := early b5 b5.size b6
      clear F0
      go_wp2_with fail
      go_loopw [10, 11] (fun v u wr => FoundRel w.heap.size l c w v u wr) (fun _ u _ => t - (intOf u).toNat)
      case atStart => exact ⟨0, _, Nat.zero_le _, rfl, rfl, (fun h => by rcases h with rfl | ⟨j, hj, _⟩; simp; omega), b7⟩
      case round =>
        obtain ⟨q, f, hq, rfl, rfl, hf, hbq⟩ := hrel
        rw [HLL.out] at hq
        have HFF := Lib.hid hf
        clear hf
        by_cases hlt : q < t
        · cases f with
          | true =>
            go_wp2
            go_roundw
            case rel => exact ⟨q + 1, true, by rw [HLL.out]; omega, by go_num, rfl, fun _ => rfl, hbq⟩
            case measure => simp [intOf]; omega
          | false =>
            obtain ⟨g, o, rfl, hg, hcell⟩ := HB.out.below hbq q (by rw [HLL.out]; exact hlt)
            have F := HF.out (l.getD q 0)
            have hx : Hid (l.getD q 0 = c → ((strOf (fullS c)).toList == (strOf (fullS (l.getD q 0))).toList) = true) := fun e => by rw [e]; exact beq_self_eq_true _
            have HM := Lib.hid (show ((c = 0 ∨ ∃ j, j < q + 1 ∧ l.getD j 0 = c) → (c = 0 ∨ ∃ j, j < q ∧ l.getD j 0 = c) ∨ l.getD q 0 = c) by
              rintro (h | ⟨j, hj, hjc⟩)
              · exact .inl (.inl h)
              · by_cases e : j = q
                · subst e; exact .inr hjc
                · exact .inl (.inr ⟨j, by omega, hjc⟩))
            generalize l.getD q 0 = fc at *
            generalize strOf (fullS fc) = sf at *
            generalize strOf (fullS c) = sc at *
            go_wp2_with fail
            (with_reducible refine (F _).mono ?_)
            rintro e w6 ⟨rfl, b8⟩
            have b9 := early hbq hbq.size b8
            clear F hcell
            go_wp2
            go_roundw
            case rel => exact ⟨q + 1, (sc.toList == sf.toList), by rw [HLL.out]; omega, by go_num, rfl, (fun h => by
              rcases HM.out h with h | h
              · cases HFF.out h
              · exact hx.out h), b9⟩
            case measure => simp [intOf]; omega
        · obtain rfl : q = t := by omega
          have e := HFF.out HC2.out
          subst e
          go_wp2
          go_ret
          exact ⟨rfl, hbq⟩
end Go.Proofs.Ytmkheikllbjcbaa
