/-
  The walk of polderlaw11.SpacePlays.
-/
import Derived.Test.YtoiiaacjpobaeaaSr
import Derived.Deep.DeepCutAuto
import Derived.Deep.CutBlock
namespace Go.Proofs.Ytoiiaacjpobaeaa
set_option maxRecDepth 100000
open Go.RowKit

/-- Where the calls have come to: the map, and the marks. -/
def MarkRel (B : Nat) (b N : Nat) (n : Nat) (W : World) (v u : Value) (wr : World) : Prop :=
  ∃ (t : Nat) (l : List (Int × Int)) (us : List Bool), t ≤ n ∧ u = .int .i64 (t : Int) ∧ Hid (OwnB B wr v us) ∧ Hid (Um (N : Int) l us) ∧ Hid (WF (N : Int) l) ∧ Hid (MapIn B noX wr b (N : Int) l) ∧ Hid (Below B W wr)
/-- Behind a call. -/
def MarkCut (B : Nat) (b N : Nat) (W : World) (v : Value) (wc : World) : Prop :=
  ∃ (l : List (Int × Int)) (us : List Bool), Hid (OwnB B wc v us) ∧ Hid (Um (N : Int) l us) ∧ Hid (WF (N : Int) l) ∧ Hid (MapIn B noX wc b (N : Int) l) ∧ Hid (Below B W wc)
/-- Where the comparing has come to. -/
def IdleRel (n : Nat) (W : World) (u : Value) (wr : World) : Prop := ∃ k : Nat, k ≤ n ∧ u = .int .i64 (k : Int) ∧ Hid (Below W.heap.size W wr)
theorem OwnP.isSl {w : World} {B : Nat} {v : Value} {l : List (Int × Int)} (h : OwnP B w v l) : ∃ a c, v = .slice a l.length c := by
  rcases h.2 with ⟨rfl, h0⟩ | ⟨g, cap, cur, rfl, hB, hb, hnc, _⟩
  · exact ⟨_, _, by rw [h0]⟩
  · exact ⟨_, _, rfl⟩
theorem Um.blank (N : Nat) : Um (N : Int) [] (List.replicate N false) := ⟨by simp, fun i hi => by simp [inR_nil]⟩
theorem own_blank {B : Nat} {w : World} {v : Value} {N : Nat} (h : w.ownsRow B 4 1 v N (madeCells (Value.bool false).cells (N * 1)).toList) : OwnB B w v (List.replicate N false) := by
  unfold OwnB
  have e : (madeCells (Value.bool false).cells (N * 1)).toList = (List.replicate N false).map Value.bool := by
    rw [Nat.mul_one, List.map_replicate]
    exact toList_madeCells_one _ _
  rw [List.length_replicate, ← e]
  exact h

set_option maxRecDepth 100000 in
set_option maxHeartbeats 8000000 in
theorem walk_SpacePlays (z : Int) (a1 : Option Addr) (len1 cap1 : Nat) (w : World) (w0 : (Lit.int .i64 z).wf = true) (hr1 : ∃ f, Acts w a1 len1 f) :
    Calls Try.prog 5 #[.int .i64 z, .slice a1 len1 cap1] w fun e w' => e = .returned (.bool true) ∧ Below w.heap.size w w' := by
  obtain ⟨f1, hA1⟩ := hr1
  obtain ⟨x0, x1⟩ := bounds_i64 w0
  have HA1 := Lib.hid hA1
  have hm1 := hA1.1
  unfold maxLen at hm1
  clear hA1 w0
  by_cases h1 : 100 < len1
  · have d1 : decide ((100 : Int) < (len1 : Int)) = true := by simp; omega
    go_enter Try.func5, Try.ntmps5
    go_wp2_with fail
    refine (awake_any _).mono ?_
    rintro e w1 ⟨rfl, b1⟩
    go_wp2_with fail
    refine (awake_any _).mono ?_
    rintro e w2 ⟨rfl, b2⟩
    go_wp2
    go_ret
    exact ⟨rfl, next b1 b2⟩
  have d1 : decide ((100 : Int) < (len1 : Int)) = false := by simp; omega
  by_cases h2 : 300 < z ∧ z ≤ 65536
  · have d2 : decide (300 < z) = true := decide_eq_true h2.1
    have d3 : decide (z ≤ 65536) = true := decide_eq_true h2.2
    clear h2
    go_enter Try.func5, Try.ntmps5
    go_wp2_with fail
    refine (awake_any _).mono ?_
    rintro e w1 ⟨rfl, b1⟩
    go_wp2_with fail
    refine (awake_any _).mono ?_
    rintro e w2 ⟨rfl, b2⟩
    go_wp2
    go_ret
    exact ⟨rfl, next b1 b2⟩
  by_cases h3 : 65536 < z
  · have d2 : decide (300 < z) = true := decide_eq_true (by omega)
    have d3 : decide (z ≤ 65536) = false := decide_eq_false (by omega)
    have d4 : decide (z < 1) = false := decide_eq_false (by omega)
    have d5 : decide (65536 < z) = true := decide_eq_true h3
    have HZ := Lib.hid (fun W => new_no z W (.inr h3))
    clear h2 h3
    go_enter Try.func5, Try.ntmps5
    go_wp2_with fail
    refine (awake_any _).mono ?_
    rintro e w1 ⟨rfl, b1⟩
    go_wp2_with fail
    refine (HZ.out w1).mono ?_
    rintro e w2 ⟨rfl, rfl⟩
    go_wp2
    go_ret
    exact ⟨rfl, b1⟩
  have d2 : decide (300 < z) = false := decide_eq_false (by omega)
  by_cases h4 : z < 1
  · have d4 : decide (z < 1) = true := decide_eq_true h4
    have HZ := Lib.hid (fun W => new_no z W (.inl h4))
    clear h2 h3
    go_enter Try.func5, Try.ntmps5
    go_wp2_with fail
    refine (awake_any _).mono ?_
    rintro e w1 ⟨rfl, b1⟩
    go_wp2_with fail
    refine (HZ.out w1).mono ?_
    rintro e w2 ⟨rfl, rfl⟩
    go_wp2
    go_ret
    exact ⟨rfl, b1⟩
  have d4 : decide (z < 1) = false := decide_eq_false h4
  have d5 : decide (65536 < z) = false := decide_eq_false h3
  obtain ⟨N, rfl⟩ : ∃ N : Nat, z = (N : Int) := ⟨z.toNat, by omega⟩
  have N1 : 1 ≤ N := by omega
  have N3 : N ≤ 300 := by omega
  have hz0 : (0 : Int) ≤ (N : Int) ∧ (N : Int) ≤ 65536 := by omega
  have HZ0 := Lib.hid hz0
  clear h2 h3 h4 hz0
  go_enter Try.func5, Try.ntmps5
  go_wp2_with fail
  refine (awake_any _).mono ?_
  rintro e w1 ⟨rfl, b1⟩
  go_wp2_with fail
  refine (new_ok (N : Int) w1 (by omega) (by omega)).mono ?_
  rintro e w2 ⟨b, rfl, h2, b2⟩
  have H2 := Lib.hid (h2.lower b1.size)
  have B2 := Lib.hid (next b1 b2)
  clear h2 b1 b2
  obtain ⟨ib, hib, hibz, hibs, hibb⟩ := info_bool
  have HIB := Lib.hid (And.intro hib (And.intro hibz (And.intro hibs hibb)))
  clear hib hibz hibs hibb
  go_wp2_with (first
    | (at_make; refine wpList_make_full _ rfl _ _ 41 rfl w.heap.size 4 ib (.bool false) 1 Try.underlying41 HIB.out.1 HIB.out.2.1 HIB.out.2.2.1 .i64 .i64 (N : Int) (N : Int) N rfl rfl rfl rfl (by have := HIB.out.2.2.2; rw [this]; omega) (by unfold maxLen; omega) B2.out.size ?_; intro w3 hO3 hg3; have O3 := Lib.hid (own_blank hO3); have B3 := Lib.hid (Below.grown (Below.refl w2.heap.size w2) hg3 (Nat.le_refl _) (fun k hk => by cases hk)); clear hO3 hg3))
  have hrel0 : MarkRel w.heap.size b N len1 w (.slice (some ⟨w2.heap.size, 0, none⟩) N N) (.int .i64 0) w3 := ⟨0, [], _, Nat.zero_le _, rfl, O3, Lib.hid (Um.blank N), Lib.hid (WF.nil _), Lib.hid (H2.out.below B3.out), Lib.hid (early B2.out B2.out.size B3.out)⟩
  clear O3 B3 HIB H2 B2
  go_loopw [7, 8] (fun v u wr => MarkRel w.heap.size b N len1 w v u wr) (fun _ u _ => len1 - (intOf u).toNat)
  case atStart => exact hrel0
  case round =>
    obtain ⟨t, l, us, ht, rfl, HO, HU, HW, HM, HB⟩ := hrel
    clear hrel0
    by_cases hlt : t < len1
    · obtain ⟨g, o, rfl, hg, hx⟩ := HA1.out.at_ HB.out hlt
      generalize f1 t = x at hx
      obtain ⟨xd, xa, xn⟩ := x
      have HX := Lib.hid hx
      obtain ⟨xd0, xd1⟩ : 0 ≤ xd ∧ xd ≤ 255 := hx.d0
      obtain ⟨xn0, xn1⟩ : I64 xn := hx.n0
      obtain ⟨xa0, xa1⟩ : I64 xa := hx.a0
      have c1 : wr.cell? ⟨g, o + t * 3 + 1, none⟩ = some (.int .i64 xa) := hx.c1
      have c2 : wr.cell? ⟨g, o + t * 3 + 2, none⟩ = some (.int .i64 xn) := hx.c2
      have hNu : 0 < us.length := by have := HU.out.len; omega
      obtain ⟨gu, nu, cu, hvu, hmu⟩ := HO.out.at_ hNu
      have hnu : nu = N := by have := HU.out.len; have := hmu.len; omega
      subst hnu
      subst hvu
      have HMU := Lib.hid hmu
      clear hx hmu hNu
      go_wp2_with fail
      go_quiet (fail)
      have HB1 := Lib.hid (below_drewN HB.out nq)
      have HM1 := Lib.hid (HM.out.below (below_drewN (Below.refl _ wr) nq))
      have HO1 := Lib.hid (HO.out.below (below_drewN (Below.refl _ wr) nq))
      have HMU1 := Lib.hid (HMU.out.next (below_drewN (Below.refl _ wr) nq))
      have HX1 := Lib.hid (HX.out.below (below_drewN (Below.refl _ wr) nq))
      clear HB HM HO HMU HX c1 c2
      generalize wr.drewN nq = wB at *
      go_upto_region 11 with (fail)
      go_cut [11] from 70 to 87 (fun s11 wc => s11 = .bool (hasB (nu : Int) xa xn) ∧ wc = wB)
      case first =>
        by_cases q1 : 1 ≤ xn
        · have e1 : decide (1 ≤ xn) = true := decide_eq_true q1
          by_cases q2 : 0 ≤ xa
          · have e2 : decide (0 ≤ xa) = true := decide_eq_true q2
            by_cases q3 : xa < (nu : Int)
            · have e3 : decide (xa < (nu : Int)) = true := decide_eq_true q3
              have hB : hasB (nu : Int) xa xn = decide (xn ≤ (nu : Int) - xa) := by
                unfold hasB
                by_cases h : xn ≤ (nu : Int) - xa
                · rw [decide_eq_true h, decide_eq_true (by omega)]
                · rw [decide_eq_false h, decide_eq_false (by omega)]
              have HBv := Lib.hid hB
              clear hB
              go_wp2_with fail
              go_meet
              exact ⟨by rw [HBv.out], rfl⟩
            · have e3 : decide (xa < (nu : Int)) = false := decide_eq_false q3
              have hB : hasB (nu : Int) xa xn = false := decide_eq_false (by omega)
              have HBv := Lib.hid hB
              clear hB
              go_wp2_with fail
              go_meet
              exact ⟨by rw [HBv.out], rfl⟩
          · have e2 : decide (0 ≤ xa) = false := decide_eq_false q2
            have hB : hasB (nu : Int) xa xn = false := decide_eq_false (by omega)
            have HBv := Lib.hid hB
            clear hB
            go_wp2_with fail
            go_meet
            exact ⟨by rw [HBv.out], rfl⟩
        · have e1 : decide (1 ≤ xn) = false := decide_eq_false q1
          have hB : hasB (nu : Int) xa xn = false := decide_eq_false (by omega)
          have HBv := Lib.hid hB
          clear hB
          go_wp2_with fail
          go_meet
          exact ⟨by rw [HBv.out], rfl⟩
      case rest =>
        obtain ⟨rfl, rfl⟩ := hcut
        have c0 := HX1.out.c0
        go_upto_block 2 with (fail)
        go_cut [7, 11, 12, 13, 14, 15] from 88 to 156 (fun v _ _ _ _ _ wc' => MarkCut w.heap.size b nu w v wc')
        case first =>
          by_cases p2 : xd % 4 = 2
          · have dp : (xd % 4 == 2) = true := by simpa using p2
            clear p2
            obtain ⟨r, l', hR, hT⟩ := free_any HW.out HZ0.out xa xn ⟨xn0, xn1⟩
            have HT := Lib.hid (hT _ _ _ _ (HM1.out.apartB HO1.out))
            clear hT
            cases hh : hasB (nu : Int) xa xn with
            | false =>
              obtain ⟨rfl, rfl⟩ : r = 1 ∧ l' = l := by
                rcases hR with ⟨e, _, e2⟩ | ⟨_, h, _⟩ | h
                · exact ⟨e, e2⟩
                · rw [hh] at h; cases h
                · have h := h.2.1; rw [hh] at h; cases h
              clear hR
              go_wp2_with fail
              refine HT.out.mono ?_
              rintro e w5 ⟨rfl, h5, k5⟩
              have H5 := Lib.hid h5.free
              have O5 := Lib.hid (HO1.out.keep k5)
              have B5 := Lib.hid (HB1.out.trans k5.low)
              clear h5 k5
              go_wp2_with fail
              go_meet
              exact ⟨l', us, O5, HU, HW, H5, B5⟩
            | true =>
              by_cases hf : FullR l xa xn
              · have HC := Lib.hid (refFull_ok HMU1.out HU.out N3 hh (c := cu) (a := xa) (n := xn) (l := l) true (by simp [hf]))
                obtain ⟨rfl, hk⟩ := hR.full hh hf
                have HUl := Lib.hid (HU.out.freed hk)
                have HWl := Lib.hid hk.wf
                have HH := Lib.hid hh
                clear hf hR hk hh
                go_wp2_with fail
                refine HC.out.mono ?_
                rintro e w4 ⟨rfl, rfl⟩
                go_wp2_with fail
                refine HT.out.mono ?_
                rintro e w5 ⟨rfl, h5, k5⟩
                have H5 := Lib.hid h5.free
                have O5 := Lib.hid (HO1.out.keep k5)
                have B5 := Lib.hid (HB1.out.trans k5.low)
                clear h5 k5
                have MU5 : Hid (MarksAt w5 gu nu us) := Lib.hid (by
                  obtain ⟨g', n', c', e, h⟩ := O5.out.at_ (by have := HMU1.out.len; omega)
                  cases e
                  exact h)
                go_wp2_with fail
                refine (refSet_ok (c := cu) MU5.out N3 HH.out false).mono ?_
                rintro e w6 ⟨v6, rfl, hO6, b6⟩
                have O6 := Lib.hid (hO6.lower B5.out.size)
                have H6 := Lib.hid (H5.out.below b6)
                have B6 := Lib.hid (next B5.out b6)
                clear hO6 b6
                go_wp2_with fail
                go_meet
                exact ⟨l', _, O6, HUl, HWl, H6, B6⟩
              · have HC := Lib.hid (refFull_ok HMU1.out HU.out N3 hh (c := cu) (a := xa) (n := xn) (l := l) false (by simp [hf]))
                obtain ⟨rfl, rfl⟩ : r = 7 ∧ l' = l := by
                  rcases hR with ⟨_, h, _⟩ | ⟨e, _, _, e2⟩ | h
                  · rw [hh] at h; cases h
                  · exact ⟨e, e2⟩
                  · exact absurd h.2.2.1 hf
                clear hf hR hh
                go_wp2_with fail
                refine HC.out.mono ?_
                rintro e w4 ⟨rfl, rfl⟩
                go_wp2_with fail
                refine HT.out.mono ?_
                rintro e w5 ⟨rfl, h5, k5⟩
                have H5 := Lib.hid h5.free
                have O5 := Lib.hid (HO1.out.keep k5)
                have B5 := Lib.hid (HB1.out.trans k5.low)
                clear h5 k5
                go_wp2_with fail
                go_meet
                exact ⟨l', us, O5, HU, HW, H5, B5⟩
          · have dp : (xd % 4 == 2) = false := by simpa using p2
            by_cases p3 : xd % 4 = 3
            · have dp3 : (xd % 4 == 3) = true := by simpa using p3
              clear p2 p3
              go_wp2_with fail
              refine (Find_ok (f := xa) HM1.out HW.out HZ0.out ⟨xn0, xn1⟩).mono ?_
              rintro e w5 ⟨a, ok, rfl, hA, b5⟩
              have H5 := Lib.hid (HM1.out.below b5)
              have O5 := Lib.hid (HO1.out.below b5)
              have MU5 := Lib.hid (HMU1.out.next b5)
              have B5 := Lib.hid (next HB1.out b5)
              clear b5
              cases ok with
              | true =>
                have HC := Lib.hid (refFind_ok (c := cu) MU5.out HU.out N3 ⟨xn0, xn1⟩ a true hA a (fun _ => rfl) (fun h => by cases h))
                have ha0 : 0 ≤ a := hA.free.1
                have hda : decide (0 ≤ a) = true := decide_eq_true ha0
                have hda2 : ¬ a < 0 := by omega
                have haa : (a != a) = false := by simp
                have hmx : max a 0 = a := by omega
                clear hA
                go_wp2_with fail
                refine HC.out.mono ?_
                rintro e w6 ⟨rfl, rfl⟩
                go_wp2_with fail
                go_meet
                exact ⟨l, us, O5, HU, HW, H5, B5⟩
              | false =>
                have ha0 : a = 0 := by
                  rcases hA with ⟨h, _⟩ | ⟨_, h, _⟩
                  · cases h
                  · exact h
                subst ha0
                have HC := Lib.hid (refFind_ok (c := cu) MU5.out HU.out N3 ⟨xn0, xn1⟩ 0 false hA (-1) (fun h => by cases h) (fun _ => rfl))
                clear hA
                go_wp2_with fail
                refine HC.out.mono ?_
                rintro e w6 ⟨rfl, rfl⟩
                go_wp2_with fail
                go_meet
                exact ⟨l, us, O5, HU, HW, H5, B5⟩
            · have dp3 : (xd % 4 == 3) = false := by simpa using p3
              clear p2 p3
              obtain ⟨r, l', hR, hT⟩ := take_any HW.out HZ0.out xa xn ⟨xn0, xn1⟩
              have HT := Lib.hid (hT _ _ _ _ (HM1.out.apartB HO1.out))
              clear hT
              cases hh : hasB (nu : Int) xa xn with
              | false =>
                obtain ⟨rfl, rfl⟩ : r = 1 ∧ l' = l := by
                  rcases hR with ⟨e, _, e2⟩ | ⟨_, h, _⟩ | h
                  · exact ⟨e, e2⟩
                  · rw [hh] at h; cases h
                  · have h := h.2.1.has; rw [hh] at h; cases h
                clear hR
                go_wp2_with fail
                refine HT.out.mono ?_
                rintro e w5 ⟨rfl, h5, k5⟩
                have H5 := Lib.hid h5.free
                have O5 := Lib.hid (HO1.out.keep k5)
                have B5 := Lib.hid (HB1.out.trans k5.low)
                clear h5 k5
                go_wp2_with fail
                go_meet
                exact ⟨l', us, O5, HU, HW, H5, B5⟩
              | true =>
                by_cases hf : FreeR (nu : Int) l xa xn
                · have HC := Lib.hid (refFree_ok HMU1.out HU.out N3 ⟨xn0, xn1⟩ (c := cu) (a := xa) (n := xn) (l := l) true (by simp [hf]))
                  obtain ⟨rfl, hk⟩ := hR.free hf
                  have HUl := Lib.hid (HU.out.taken hk)
                  have HWl := Lib.hid hk.wf
                  have HH := Lib.hid hh
                  clear hf hR hk hh
                  go_wp2_with fail
                  refine HC.out.mono ?_
                  rintro e w4 ⟨rfl, rfl⟩
                  go_wp2_with fail
                  refine HT.out.mono ?_
                  rintro e w5 ⟨rfl, h5, k5⟩
                  have H5 := Lib.hid h5.free
                  have O5 := Lib.hid (HO1.out.keep k5)
                  have B5 := Lib.hid (HB1.out.trans k5.low)
                  clear h5 k5
                  have MU5 : Hid (MarksAt w5 gu nu us) := Lib.hid (by
                    obtain ⟨g', n', c', e, h⟩ := O5.out.at_ (by have := HMU1.out.len; omega)
                    cases e
                    exact h)
                  go_wp2_with fail
                  refine (refSet_ok (c := cu) MU5.out N3 HH.out true).mono ?_
                  rintro e w6 ⟨v6, rfl, hO6, b6⟩
                  have O6 := Lib.hid (hO6.lower B5.out.size)
                  have H6 := Lib.hid (H5.out.below b6)
                  have B6 := Lib.hid (next B5.out b6)
                  clear hO6 b6
                  go_wp2_with fail
                  go_meet
                  exact ⟨l', _, O6, HUl, HWl, H6, B6⟩
                · have HC := Lib.hid (refFree_ok HMU1.out HU.out N3 ⟨xn0, xn1⟩ (c := cu) (a := xa) (n := xn) (l := l) false (by simp [hf]))
                  obtain ⟨rfl, rfl⟩ : r = 13 ∧ l' = l := by
                    rcases hR with ⟨_, h, _⟩ | ⟨e, _, _, e2⟩ | h
                    · rw [hh] at h; cases h
                    · exact ⟨e, e2⟩
                    · exact absurd h.2.1 hf
                  clear hf hR hh
                  go_wp2_with fail
                  refine HC.out.mono ?_
                  rintro e w4 ⟨rfl, rfl⟩
                  go_wp2_with fail
                  refine HT.out.mono ?_
                  rintro e w5 ⟨rfl, h5, k5⟩
                  have H5 := Lib.hid h5.free
                  have O5 := Lib.hid (HO1.out.keep k5)
                  have B5 := Lib.hid (HB1.out.trans k5.low)
                  clear h5 k5
                  go_wp2_with fail
                  go_meet
                  exact ⟨l', us, O5, HU, HW, H5, B5⟩
        case rest =>
          obtain ⟨l2, us2, HO2, HU2, HW2, HM2, HB2⟩ := hcut
          have hll := HW2.out.len HZ0.out
          obtain ⟨g2, n2, cu2, hv2, hmu2⟩ := HO2.out.at_ (by have := HU2.out.len; omega)
          have hn2 : n2 = nu := by have := HU2.out.len; have := hmu2.len; omega
          subst hn2
          subst hv2
          have HMU2 := Lib.hid hmu2
          clear hmu2 HO1 HM1 HMU1 HX1 HB1 HU HW c0
          go_wp2_with fail
          refine (runs_ok HM2.out (by omega)).mono ?_
          rintro e w5 ⟨ra, n, rc, rfl, hl, hO5, b5⟩
          have HL := Lib.hid hl
          have R5 := Lib.hid hO5.r
          have MU5 := Lib.hid (HMU2.out.next b5)
          have B5 := Lib.hid b5
          have hn6 : n ≤ 65536 := by omega
          clear hl hO5 b5
          go_wp2_with fail
          refine (refRuns_ok (c := cu2) MU5.out HU2.out HW2.out N3).mono ?_
          rintro e w6 ⟨v6, rfl, hO6, b6⟩
          obtain ⟨sa, sc, hv6⟩ := hO6.isSl
          rw [HL.out] at hv6
          subst hv6
          have R6 := Lib.hid (R5.out.below b6)
          have O6 := Lib.hid hO6
          have B6 := Lib.hid (next B5.out b6)
          have hnn : ((n : Int) != (n : Int)) = false := by simp
          clear hO6 b6
          have hrel2 : IdleRel n w6 (.int .i64 0) w6 := ⟨0, Nat.zero_le _, rfl, Lib.hid (Below.refl _ _)⟩
          clear hll
          go_wp2_with fail
          go_loopw [18] (fun u wq => IdleRel n w6 u wq) (fun u _ => n - (intOf u).toNat)
          case atStart => exact hrel2
          case round =>
            obtain ⟨k, hk, rfl, HB7⟩ := hrel
            clear hrel2
            by_cases hkn : k < n
            · have hkl : k < l2.length := by rw [HL.out]; exact hkn
              rcases R6.out with ⟨e, _⟩ | ⟨g3, n3, c3, e, _, _, _, hRow1⟩
              · cases e; omega
              cases e
              obtain ⟨g4, n4, c4, e, _, _, hg4, hI4, _⟩ := O6.out.at_ (by omega)
              cases e
              obtain ⟨r0, r1⟩ := (hRow1.is k hkl).below hRow1.lt HB7.out
              obtain ⟨s0, s1⟩ := (hI4 k hkl).below hg4 HB7.out
              generalize l2[k].1 = rx at *
              generalize l2[k].2 = ry at *
              have hx1 : (rx != rx) = false := by simp
              have hx2 : (ry != ry) = false := by simp
              clear hRow1 hI4 hkl hg4
              go_wp2_with fail
              go_quiet (fail)
              have HB8 := Lib.hid (below_drewN HB7.out nq)
              go_wp2_with fail
              go_roundw
              case rel => exact ⟨k + 1, by omega, by go_num, HB8⟩
              case measure => simp [intOf]; omega
            · obtain rfl : k = n := by omega
              have HB9 := Lib.hid (next B6.out HB7.out)
              go_wp2
              go_roundw
              case rel => exact ⟨t + 1, l2, us2, by omega, by go_num, Lib.hid (HO2.out.below HB9.out), HU2, HW2, Lib.hid (HM2.out.below HB9.out), Lib.hid (next HB2.out HB9.out)⟩
              case measure => simp [intOf]; omega
    · go_wp2
      go_ret
      exact ⟨rfl, HB.out⟩
end Go.Proofs.Ytoiiaacjpobaeaa
