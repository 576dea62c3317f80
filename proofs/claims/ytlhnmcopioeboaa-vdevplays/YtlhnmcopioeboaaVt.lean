/-
  The document's Failed and Lost; how many devices of a block aren't here.
-/
import Derived.Test.YtlhnmcopioeboaaVr
import Derived.Test.YtlhnmcopioeboaaMg
namespace Go.Proofs.Ytlhnmcopioeboaa
set_option maxRecDepth 100000
open Go.RowKit Go.Maps M

/-- Has one of the first m columns the device d? -/
def hasD (L : List C) (d : Nat) : Nat → Bool
  | 0 => false
  | m + 1 => hasD L d m || decide (devN L m = d)
theorem hasD_iff {L : List C} {d m : Nat} : hasD L d m = true ↔ ∃ j, j < m ∧ devN L j = d := by
  induction m with
  | zero => simp [hasD]
  | succ m ih =>
    rw [hasD, Bool.or_eq_true, ih, decide_eq_true_iff]
    constructor
    · rintro (⟨j, hj, e⟩ | e)
      · exact ⟨j, by omega, e⟩
      · exact ⟨m, by omega, e⟩
    · rintro ⟨j, hj, e⟩
      by_cases h : j = m
      · subst h; exact .inr e
      · exact .inl ⟨j, by omega, e⟩
/-- How many of the first k devices have a column, and aren't here. -/
def lackN (L : List C) (hr : Nat → Bool) : Nat → Nat
  | 0 => 0
  | k + 1 => if hasD L k L.length && !hr k then lackN L hr k + 1 else lackN L hr k
theorem lackN_eq (L : List C) (hr : Nat → Bool) (k : Nat) : lackN L hr k = ((List.range k).filter fun d => hasD L d L.length && !hr d).length := by
  induction k with
  | zero => rfl
  | succ k ih =>
    rw [lackN, List.range_succ, List.filter_append, List.length_append, ih]
    cases h : (hasD L k L.length && !hr k) <;> simp [h]
theorem faTo_nodup (hr : Nat → Bool) (L : List C) (m : Nat) : (faTo hr L m).Nodup ∧ ∀ d, d ∈ faTo hr L m ↔ (∃ j, j < m ∧ devN L j = d) ∧ hr d = false := by
  induction m with
  | zero => exact ⟨List.nodup_nil, fun d => by simp [faTo]⟩
  | succ m ih =>
    obtain ⟨h1, h2⟩ := ih
    rw [faTo]
    cases hh : hr (devN L m) with
    | true =>
      rw [if_pos rfl]
      refine ⟨h1, fun d => (h2 d).trans ⟨fun ⟨⟨j, hj, e⟩, hd⟩ => ⟨⟨j, by omega, e⟩, hd⟩, fun ⟨⟨j, hj, e⟩, hd⟩ => ⟨?_, hd⟩⟩⟩
      by_cases ej : j = m
      · subst ej
        rw [e, hd] at hh
        cases hh
      · exact ⟨j, by omega, e⟩
    | false =>
      rw [if_neg (by simp)]
      unfold putN
      split
      · rename_i hm
        refine ⟨h1, fun d => (h2 d).trans ⟨fun ⟨⟨j, hj, e⟩, hd⟩ => ⟨⟨j, by omega, e⟩, hd⟩, fun ⟨⟨j, hj, e⟩, hd⟩ => ?_⟩⟩
        by_cases ej : j = m
        · subst ej
          rw [← e]
          exact (h2 _).1 hm
        · exact ⟨⟨j, by omega, e⟩, hd⟩
      · rename_i hm
        refine ⟨List.nodup_append.2 ⟨h1, by simp, fun a ha b hb => by rw [List.mem_singleton.1 hb]; intro e; exact hm (e ▸ ha)⟩, fun d => ?_⟩
        rw [List.mem_append, List.mem_singleton, h2]
        constructor
        · rintro (⟨⟨j, hj, e⟩, hd⟩ | rfl)
          · exact ⟨⟨j, by omega, e⟩, hd⟩
          · exact ⟨⟨m, by omega, rfl⟩, hh⟩
        · rintro ⟨⟨j, hj, e⟩, hd⟩
          by_cases ej : j = m
          · subst ej; exact .inr e.symm
          · exact .inl ⟨⟨j, by omega, e⟩, hd⟩
theorem faTo_lack (hr : Nat → Bool) (L : List C) (n : Nat) (hn : ∀ j, j < L.length → devN L j < n) : (faTo hr L L.length).length = lackN L hr n := by
  rw [lackN_eq]
  obtain ⟨h1, h2⟩ := faTo_nodup hr L L.length
  apply List.Perm.length_eq
  rw [List.perm_ext_iff_of_nodup h1 (List.nodup_range.filter _)]
  intro d
  rw [h2, List.mem_filter, List.mem_range, Bool.and_eq_true, hasD_iff, Bool.not_eq_true']
  constructor
  · rintro ⟨⟨j, hj, e⟩, hd⟩
    exact ⟨by rw [← e]; exact hn j hj, ⟨j, hj, e⟩, hd⟩
  · rintro ⟨_, h, hd⟩
    exact ⟨h, hd⟩
theorem lackN_le (L : List C) (hr : Nat → Bool) (k : Nat) : lackN L hr k ≤ k := by
  induction k with
  | zero => exact Nat.le_refl _
  | succ k ih => rw [lackN]; split <;> omega
set_option maxHeartbeats 2000000 in
theorem refFailed_any (l : List (Int × Int)) (sc : Int) (v : Value) (w : World) (h : Meas w v l sc) (k t z : Nat) (hB : Blk l sc k t z) (aH : Option Addr) (n cH : Nat) (hr : Nat → Bool) (hn : n ≤ 32) (hH : ∀ i, i < n → ∃ g o, aH = some ⟨g, o, none⟩ ∧ g < w.heap.size ∧ w.cell? ⟨g, o + i, none⟩ = some (.bool (hr i))) :
    Calls Try.prog 19 #[v, .agg #[.int .i64 (k : Int), .int .i64 (t : Int)], .int .i64 (z : Int), .slice aH n cH] w fun e w' => e = .returned (.int .i64 (lackN (colsOf l k t z) hr n : Int)) ∧ Below w.heap.size w w' := by
  have hz4 := hB.z4
  have hbd := hB.bounds
  have hpos := hB.laid.pos
  have hfew := hB.laid.few
  have K1 := h
  obtain ⟨a, gn, gc, rfl, hg⟩ := id h
  replace K1 := Lib.hid (HeldP.start (k : Int) (t : Int) K1)
  have HDN : Hid (∀ j (hj : j < (colsOf l k t z).length), (colsOf l k t z)[j].dev = (devN (colsOf l k t z) j : Int)) := Lib.hid fun j hj => by
    obtain ⟨h0, _⟩ := hB.dev j hj
    have e : devN (colsOf l k t z) j = (colsOf l k t z)[j].dev.toNat := by unfold devN; rw [List.getD_eq_getElem?_getD, List.getElem?_eq_getElem hj]; rfl
    rw [e]
    omega
  have HO := Lib.hid (refOf_any l sc _ _ K1.out.h.m k t z hB)
  have HH := Lib.hid hH
  obtain ⟨L, hL⟩ : ∃ L, colsOf l k t z = L := ⟨_, rfl⟩
  rw [hL] at HDN HO hpos hfew
  have HLE := Lib.hid hL
  clear h hg hB hH hL
  go_enter Try.func19, Try.ntmps19
  go_wp2_with fail
  refine HO.out.mono ?_
  rintro e w3 ⟨v3, rfl, hO3, c3⟩
  have HO3 := Lib.hid hO3
  have HB3 := Lib.hid (next K1.out.h.below c3)
  obtain ⟨m, hm⟩ : ∃ m, L.length = m := ⟨_, rfl⟩
  obtain ⟨g1, c1, rfl, hgc1, _, _⟩ := hO3.some hpos
  rw [hm] at hpos hfew hgc1 ⊢
  have HM := Lib.hid hm
  clear hO3 c3 hm K1 HO
  go_wp2_with fail
  go_loopw [10, 11] (fun i10 i11 wr => ∃ d : Nat, d ≤ n ∧ i11 = .int .i64 d ∧ i10 = .int .i64 (lackN L hr d : Int) ∧ wr = w3) (fun _ i _ => n - (intOf i).toNat)
  case atStart => exact ⟨0, Nat.zero_le _, rfl, rfl, rfl⟩
  case round =>
    obtain ⟨d, hd, rfl, rfl, hwr⟩ := hrel
    have hwr' := hwr.symm
    clear hwr
    subst hwr'
    have hll := lackN_le L hr d
    by_cases hlt : d < n
    · obtain ⟨gH, oH, rfl, hgH, hcH⟩ := HH.out d hlt
      have hcH' := (HB3.out.cell (p := ⟨gH, oH + d, none⟩) hgH).trans hcH
      have HL1 : Hid (lackN L hr (d + 1) = if hasD L d m && !hr d then lackN L hr d + 1 else lackN L hr d) := Lib.hid (by rw [lackN, HM.out])
      generalize lackN L hr d = T at *
      generalize hr d = hrd at *
      clear hcH
      go_wp2_with fail
      go_loopw [12, 13] (fun i12 i13 wr => ∃ j : Nat, j ≤ m ∧ i13 = .int .i64 j ∧ i12 = .bool (hasD L d j) ∧ wr = w3) (fun _ i _ => m - (intOf i).toNat)
      case atStart => exact ⟨0, Nat.zero_le _, rfl, rfl, rfl⟩
      case round =>
        obtain ⟨j, hj, rfl, rfl, hwr⟩ := hrel
        have hwr' := hwr.symm
        clear hwr
        subst hwr'
        by_cases hlt2 : j < m
        · have hjL : j < L.length := by rw [HM.out]; exact hlt2
          have c0 := (ownC_in HO3.out j hjL).c0
          rw [HDN.out j hjL] at c0
          have HA1 : Hid (hasD L d (j + 1) = (hasD L d j || decide (devN L j = d))) := Lib.hid rfl
          generalize devN L j = dj at *
          have q5 : (j : Int) < (m : Int) := by omega
          cases hb : hasD L d j with
          | true =>
            rw [hb] at HA1
            clear hb
            go_wp2
            go_roundw
            case rel => exact ⟨j + 1, by omega, by go_num, by rw [HA1.out]; rfl, trivial⟩
            case measure => simp [intOf]; omega
          | false =>
            rw [hb, Bool.false_or] at HA1
            clear hb
            by_cases he : dj = d
            · subst he
              have e7 : ((dj : Int) == (dj : Int)) = true := by simp
              go_wp2
              go_roundw
              case rel => exact ⟨j + 1, by omega, by go_num, by rw [HA1.out]; simp, trivial⟩
              case measure => simp [intOf]; omega
            · have e7 : ((dj : Int) == (d : Int)) = false := by rw [beq_eq_false_iff_ne]; omega
              go_wp2
              go_roundw
              case rel => exact ⟨j + 1, by omega, by go_num, by rw [HA1.out]; simp [he], trivial⟩
              case measure => simp [intOf]; omega
        · obtain rfl : j = m := by omega
          have q6 : (d : Int) < (n : Int) := by omega
          cases hb : hasD L d j with
          | true =>
            rw [hb, Bool.true_and] at HL1
            clear hb
            cases hrd with
            | true =>
              go_wp2
              go_roundw
              case rel => exact ⟨d + 1, by omega, by go_num, by rw [HL1.out]; rfl, trivial⟩
              case measure => simp [intOf]; omega
            | false =>
              go_wp2
              go_roundw
              case rel => exact ⟨d + 1, by omega, by go_num, by rw [HL1.out]; go_num, trivial⟩
              case measure => simp [intOf]; omega
          | false =>
            rw [hb, Bool.false_and] at HL1
            clear hb
            go_wp2
            go_roundw
            case rel => exact ⟨d + 1, by omega, by go_num, by rw [HL1.out]; rfl, trivial⟩
            case measure => simp [intOf]; omega
    · obtain rfl : d = n := by omega
      go_wp2
      go_ret
      refine ⟨?_, HB3.out⟩
      rw [HLE.out]
      rfl
theorem refLost_any (kk u : Int) (n : Nat) (w : World) (hok : okG (kk, u) = true) (hn : n ≤ 32) :
    Calls Try.prog 20 #[.agg #[.int .i64 kk, .int .i64 u], .int .i64 (n : Int)] w fun e w' => e = .returned (.bool (if kk = 0 then decide ((n : Int) = u) else decide (1 < n))) ∧ Below w.heap.size w w' := by
  have hb := Lib.hid (boxed w (.cells #[.int .i64 kk, .int .i64 u] 53))
  rcases okG_cases hok with ⟨rfl, h1, h8⟩ | ⟨rfl, h1, h8⟩
  · clear hok
    by_cases he : (n : Int) = u
    · have e1 : ((n : Int) == u) = true := by rw [beq_iff_eq]; exact he
      go_enter Try.func20, Try.ntmps20
      go_wp2
      go_ret
      exact ⟨by simp, hb.out⟩
    · have e1 : ((n : Int) == u) = false := by rw [beq_eq_false_iff_ne]; exact he
      go_enter Try.func20, Try.ntmps20
      go_wp2
      go_ret
      exact ⟨by simp, hb.out⟩
  · clear hok
    by_cases he : 1 < n
    · have e1 : decide ((1 : Int) < (n : Int)) = true := by rw [decide_eq_true_iff]; omega
      go_enter Try.func20, Try.ntmps20
      go_wp2
      go_ret
      exact ⟨by simp, hb.out⟩
    · have e1 : decide ((1 : Int) < (n : Int)) = false := by rw [decide_eq_false_iff_not]; omega
      go_enter Try.func20, Try.ntmps20
      go_wp2
      go_ret
      exact ⟨by simp, hb.out⟩
end Go.Proofs.Ytlhnmcopioeboaa
