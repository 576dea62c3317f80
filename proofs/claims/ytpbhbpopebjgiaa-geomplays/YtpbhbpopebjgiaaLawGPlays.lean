/-
  The walk of polderlaw05.GeomPlays.
-/
import Derived.Test.YtpbhbpopebjgiaaGk
namespace Go.Proofs.Ytpbhbpopebjgiaa
open Go.RowKit M

/-- A measure in a box, and a row of numbers. -/
structure HeldO (w0 w : World) (b : Nat) (a : Option Addr) (n c : Nat) (s : Int) (l : List (Int × Int)) (og : Nat) (zs : List Int) : Prop where
  h : Held w0 w b a n c s l
  r : IntsAt w og zs
theorem HeldO.next {w0 w w' : World} {b : Nat} {a : Option Addr} {n c : Nat} {s : Int} {l : List (Int × Int)} {og : Nat} {zs : List Int} (h : HeldO w0 w b a n c s l og zs) (k : Below w.heap.size w w') : HeldO w0 w' b a n c s l og zs :=
  ⟨h.h.next k, h.r.next k⟩
theorem HeldO.drew {w0 w : World} {b : Nat} {a : Option Addr} {n c : Nat} {s : Int} {l : List (Int × Int)} {og : Nat} {zs : List Int} (h : HeldO w0 w b a n c s l og zs) : HeldO w0 { w with drawn := w.drawn + 1 } b a n c s l og zs :=
  h.next (Below.refl _ w).drew
structure KO (w0 : World) (b : Nat) (a : Option Addr) (n c : Nat) (s : Int) (l : List (Int × Int)) (og : Nat) (zs : List Int) where
  v : World
  h : HeldO w0 v b a n c s l og zs

set_option maxHeartbeats 1000000 in
theorem playsLong (v : Value) (l : List (Int × Int)) (s i z : Int) (w : World) (h : Meas w v l s) (hlong : 100 < l.length) :
    Calls Try.prog 5 #[v, .int .i64 i, .int .i64 z] w fun e w' => e = .returned (.bool true) ∧ Below w.heap.size w w' := by
  obtain ⟨a, n, c, rfl, hg⟩ := id h
  have hn := hg.1.2.1
  have hm := hg.1.1
  unfold maxLen at hm
  rw [hn] at hlong
  have K := Lib.hid (Held.start h)
  clear h hg hn
  go_enter Try.func5, Try.ntmps5
  go_wp2_with fail
  refine (awake_any _).mono ?_
  rintro e w1 ⟨rfl, b1⟩
  have K1 := Lib.hid (K.out.next b1)
  have c0 := K1.out.c0
  clear b1 K
  go_wp2_with fail
  refine (awake_any _).mono ?_
  rintro e w2 ⟨rfl, b2⟩
  go_wp2
  go_ret
  exact ⟨rfl, next K1.out.below b2⟩

set_option maxHeartbeats 2000000 in
theorem playsNot (v : Value) (l : List (Int × Int)) (s i z : Int) (w : World) (h : Meas w v l s) (hshort : l.length ≤ 100) (i0 : -9223372036854775808 ≤ i) (i1 : i ≤ 9223372036854775807)  (hno : rightL l s = false) :
    Calls Try.prog 5 #[v, .int .i64 i, .int .i64 z] w fun e w' => e = .returned (.bool true) ∧ Below w.heap.size w w' := by
  obtain ⟨a, n, c, rfl, hg⟩ := id h
  have hn := hg.1.2.1
  rw [hn] at hshort
  have q0 : decide (100 < (n : Int)) = false := by simp; omega
  have q0' : decide (100 < n) = false := by simp; omega
  have HI : Hid (-9223372036854775808 ≤ i ∧ i ≤ 9223372036854775807) := Lib.hid ⟨i0, i1⟩
  have K := Lib.hid (Held.start h)
  have HN := Lib.hid hn
  have HB := Lib.hid hno
  have HH : Hid (hasL l s i = false) := Lib.hid (by unfold hasL; rw [hno]; rfl)
  have HD : Hid (devsL l s = 0) := Lib.hid (by unfold devsL; rw [hno]; rfl)
  have HF : Hid (firstL l s i = 0) := Lib.hid (by unfold firstL; rw [HH.out]; rfl)
  clear hno
  clear h hg hn
  go_enter Try.func5, Try.ntmps5
  go_wp2_with fail
  refine (awake_any _).mono ?_
  rintro e w1 ⟨rfl, b1⟩
  have K1 := Lib.hid (K.out.next b1)
  have c0 := K1.out.c0
  have c1 := K1.out.c1
  clear b1 K
  go_wp2_with fail
  refine (refRight_any l s _ _ K1.out.m false HB.out).mono ?_
  rintro e w2 ⟨rfl, b2⟩
  have K2 := Lib.hid (K1.out.next b2)
  clear c0 c1 b2 K1
  have c0 := K2.out.c0
  have c1 := K2.out.c1
  go_wp2_with fail
  refine (right_any l s _ _ K2.out.m false HB.out).mono ?_
  rintro e w3 ⟨rfl, b3⟩
  have K3 := Lib.hid (K2.out.next b3)
  clear c0 c1 b3 K2
  have c0 := K3.out.c0
  have c1 := K3.out.c1
  go_wp2_with fail
  refine (devs_any l s _ _ K3.out.m 0 HD.out).mono ?_
  rintro e w4 ⟨rfl, b4⟩
  have K4 := Lib.hid (K3.out.next b4)
  clear c0 c1 b4 K3
  have c0 := K4.out.c0
  have c1 := K4.out.c1
  go_wp2_with fail
  refine (first_any l s _ _ K4.out.m i HI.out 0 HF.out).mono ?_
  rintro e w5 ⟨rfl, b5⟩
  have K5 := Lib.hid (K4.out.next b5)
  clear c0 c1 b5 K4
  have c0 := K5.out.c0
  have c1 := K5.out.c1
  go_wp2_with fail
  refine (sectors_none l s _ _ K5.out.m i HI.out HH.out).mono ?_
  rintro e w6 ⟨rfl, b6⟩
  have K6 := Lib.hid (K5.out.next b6)
  clear c0 c1 b6 K5
  have c0 := K6.out.c0
  have c1 := K6.out.c1
  go_wp2_with fail
  refine (bytes_none l s _ _ K6.out.m HB.out).mono ?_
  rintro e w7 ⟨rfl, b7⟩
  go_wp2
  go_ret
  exact ⟨by simp, next K6.out.below b7⟩

set_option maxHeartbeats 2000000 in
theorem playsOut (v : Value) (l : List (Int × Int)) (s i z : Int) (w : World) (h : Meas w v l s) (hshort : l.length ≤ 100) (i0 : -9223372036854775808 ≤ i) (i1 : i ≤ 9223372036854775807)  (hr : RightM l s) (hout : i < 0 ∨ l.length ≤ i) :
    Calls Try.prog 5 #[v, .int .i64 i, .int .i64 z] w fun e w' => e = .returned (.bool true) ∧ Below w.heap.size w w' := by
  have hout' := hout
  obtain ⟨a, n, c, rfl, hg⟩ := id h
  have hn := hg.1.2.1
  rw [hn] at hshort
  have q0 : decide (100 < (n : Int)) = false := by simp; omega
  have q0' : decide (100 < n) = false := by simp; omega
  have HI : Hid (-9223372036854775808 ≤ i ∧ i ≤ 9223372036854775807) := Lib.hid ⟨i0, i1⟩
  have K := Lib.hid (Held.start h)
  have HN := Lib.hid hn
  rw [hn] at hout
  clear hout'
  have HR := Lib.hid hr
  have HB : Hid (rightL l s = true) := Lib.hid (rightM_iff.2 hr)
  have hn4 : n ≤ 4 := by rw [← hn]; exact hr.few
  generalize hzs : ownTo l l.length = zs
  generalize hNl : zs.length = N
  have HD : Hid (devsL l s = (N : Int)) := Lib.hid (by unfold devsL; rw [rightM_iff.2 hr, if_pos rfl, ← hNl, ← hzs, ownTo_len hr _ (Nat.le_refl _)])
  have hN32 : N ≤ 32 := by
    have h1 := ownTo_len hr _ (Nat.le_refl _)
    have h2 := (hr.bounds l.length (Nat.le_refl _)).2
    rw [hzs, hNl] at h1
    rw [hn] at h1 h2
    omega
  have HZ := Lib.hid hzs
  have HNl := Lib.hid hNl
  have HO : Hid (∀ w', Meas w' (.agg #[.slice a n c, .int .i64 s]) l s → Calls Try.prog 18 #[.agg #[.slice a n c, .int .i64 s]] w' fun e w'' => ∃ g c, e = .returned (.slice (some ⟨g, 0, none⟩) N c) ∧ IntsAt w'' g zs ∧ Below w'.heap.size w' w'') := Lib.hid (by
    intro w' hw'
    have := owners_any l s _ w' hw' hr
    rw [hzs, hNl] at this
    exact this)
  generalize hY : bytesY l s l.length = Y
  have HY := Lib.hid hY
  have hYs : Y.size ≤ 100 := by rw [← hY, bytesY_size, hn]; omega
  clear hr hzs hNl hY
  have HH : Hid (hasL l s i = false) := Lib.hid (by
    cases e : hasL l s i with
    | false => rfl
    | true =>
      obtain ⟨_, k, rfl, hk⟩ := hasL_iff.1 e
      rw [hn] at hk
      omega)
  have HF : Hid (firstL l s i = 0) := Lib.hid (by unfold firstL; rw [HH.out]; rfl)
  clear h hg hn
  go_enter Try.func5, Try.ntmps5
  go_wp2_with fail
  refine (awake_any _).mono ?_
  rintro e w1 ⟨rfl, b1⟩
  have K1 := Lib.hid (K.out.next b1)
  have c0 := K1.out.c0
  have c1 := K1.out.c1
  clear b1 K
  go_wp2_with fail
  refine (refRight_any l s _ _ K1.out.m true HB.out).mono ?_
  rintro e w2 ⟨rfl, b2⟩
  have K2 := Lib.hid (K1.out.next b2)
  clear c0 c1 b2 K1
  have c0 := K2.out.c0
  have c1 := K2.out.c1
  go_wp2_with fail
  refine (right_any l s _ _ K2.out.m true HB.out).mono ?_
  rintro e w3 ⟨rfl, b3⟩
  have K3 := Lib.hid (K2.out.next b3)
  clear c0 c1 b3 K2
  have c0 := K3.out.c0
  have c1 := K3.out.c1
  go_wp2_with fail
  refine (HO.out _ K3.out.m).mono ?_
  rintro e w4 ⟨og, oc, rfl, hI, b4⟩
  have K4 := Lib.hid (HeldO.mk (K3.out.next b4) hI)
  clear c0 c1 b4 K3 hI HO
  go_wp2_with fail
  have HC1 : Hid (∀ x : KO w w.heap.size a n c s l og zs, Calls Try.prog 12 #[.agg #[.slice a n c, .int .i64 s]] x.v fun e w' => e = .returned (.int .i64 (N : Int)) ∧ ∃ y : KO w w.heap.size a n c s l og zs, w' = y.v) :=
    Lib.hid (fun x => (devs_any l s _ x.v x.h.h.m (N : Int) HD.out).mono fun e w' ⟨he, hb⟩ => ⟨he, ⟨w', x.h.next hb⟩, rfl⟩)
  have HC2 : Hid (∀ x : KO w w.heap.size a n c s l og zs, Calls Try.prog 17 #[.agg #[.slice a n c, .int .i64 s]] x.v fun e w' => e = .returned (.string Y) ∧ ∃ y : KO w w.heap.size a n c s l og zs, w' = y.v) :=
    Lib.hid (fun x => (bytes_some l s _ x.v x.h.h.m HR.out).mono fun e w' ⟨he, hb⟩ => ⟨by rw [← HY.out]; exact he, ⟨w', x.h.next hb⟩, rfl⟩)
  have HC3 : Hid (∀ x : KO w w.heap.size a n c s l og zs, Calls Try.prog 19 #[.agg #[.slice a n c, .int .i64 s]] x.v fun e w' => e = .returned (.string Y) ∧ ∃ y : KO w w.heap.size a n c s l og zs, w' = y.v) :=
    Lib.hid (fun x => (refBytes_any l s _ x.v x.h.h.m HR.out).mono fun e w' ⟨he, hb⟩ => ⟨by rw [← HY.out]; exact he, ⟨w', x.h.next hb⟩, rfl⟩)
  have eN : ((N : Int) != (N : Int)) = false := by simp
  have eY : (Y.toList != Y.toList) = false := by simp
  have k0 := fun x : KO w w.heap.size a n c s l og zs => x.h.h.c0
  have k1 := fun x : KO w w.heap.size a n c s l og zs => x.h.h.c1
  haveI hne : Nonempty (KO w w.heap.size a n c s l og zs) := ⟨⟨w4, K4.out⟩⟩
  refine wp_region_family (KO.v (w0 := w) (b := w.heap.size) (a := a) (n := n) (c := c) (s := s) (l := l) (og := og) (zs := zs)) (by kernel_rfl) (by kernel_rfl) ⟨⟨_, K4.out.drew⟩, rfl⟩ ?_
  repeat (go_big_quiet_step (first | (go_at_call 12; exact HC1.out _) | (go_at_call 17; exact HC2.out _) | (go_at_call 19; exact HC3.out _)))
  refine wpQuiet_nil ?_
  rintro w5' ⟨⟨w5, K5⟩, rfl⟩
  have K5 := Lib.hid K5
  clear HC1 HC2 HC3 eN eY k0 k1 hne K4 HY hYs
  try dsimp only
  have c0 := K5.out.h.c0
  have c1 := K5.out.h.c1
  by_cases hneg : i < 0
  · go_wp2_with fail
    refine (first_any l s _ _ K5.out.h.m i HI.out 0 HF.out).mono ?_
    rintro e w6 ⟨rfl, b6⟩
    have K6 := Lib.hid (K5.out.next b6)
    clear c0 c1 b6 K5
    have c0 := K6.out.h.c0
    have c1 := K6.out.h.c1
    go_wp2_with fail
    refine (sectors_none l s _ _ K6.out.h.m i HI.out HH.out).mono ?_
    rintro e w7 ⟨rfl, b7⟩
    go_wp2
    go_ret
    exact ⟨by simp, next K6.out.h.below b7⟩
  · have hge : (n : Int) ≤ i := by omega
    go_wp2_with fail
    refine (first_any l s _ _ K5.out.h.m i HI.out 0 HF.out).mono ?_
    rintro e w6 ⟨rfl, b6⟩
    have K6 := Lib.hid (K5.out.next b6)
    clear c0 c1 b6 K5
    have c0 := K6.out.h.c0
    have c1 := K6.out.h.c1
    go_wp2_with fail
    refine (sectors_none l s _ _ K6.out.h.m i HI.out HH.out).mono ?_
    rintro e w7 ⟨rfl, b7⟩
    go_wp2
    go_ret
    exact ⟨by simp, next K6.out.h.below b7⟩

set_option maxHeartbeats 2000000 in
theorem playsIn (v : Value) (l : List (Int × Int)) (s i z : Int) (w : World) (h : Meas w v l s) (hshort : l.length ≤ 100) (i0 : -9223372036854775808 ≤ i) (i1 : i ≤ 9223372036854775807)  (z0 : -9223372036854775808 ≤ z) (z1 : z ≤ 9223372036854775807) (hr : RightM l s) (k : Nat) (hik : i = k) (hk : k < l.length) :
    Calls Try.prog 5 #[v, .int .i64 i, .int .i64 z] w fun e w' => e = .returned (.bool true) ∧ Below w.heap.size w w' := by
  subst hik
  obtain ⟨a, n, c, rfl, hg⟩ := id h
  have hn := hg.1.2.1
  rw [hn] at hshort
  have q0 : decide (100 < (n : Int)) = false := by simp; omega
  have q0' : decide (100 < n) = false := by simp; omega
  have HI : Hid (-9223372036854775808 ≤ (k : Int) ∧ (k : Int) ≤ 9223372036854775807) := Lib.hid ⟨i0, i1⟩
  have K := Lib.hid (Held.start h)
  have HN := Lib.hid hn
  have HR := Lib.hid hr
  have HB : Hid (rightL l s = true) := Lib.hid (rightM_iff.2 hr)
  have hn4 : n ≤ 4 := by rw [← hn]; exact hr.few
  generalize hzs : ownTo l l.length = zs
  generalize hNl : zs.length = N
  have HD : Hid (devsL l s = (N : Int)) := Lib.hid (by unfold devsL; rw [rightM_iff.2 hr, if_pos rfl, ← hNl, ← hzs, ownTo_len hr _ (Nat.le_refl _)])
  have hN32 : N ≤ 32 := by
    have h1 := ownTo_len hr _ (Nat.le_refl _)
    have h2 := (hr.bounds l.length (Nat.le_refl _)).2
    rw [hzs, hNl] at h1
    rw [hn] at h1 h2
    omega
  have HZ := Lib.hid hzs
  have HNl := Lib.hid hNl
  have HO : Hid (∀ w', Meas w' (.agg #[.slice a n c, .int .i64 s]) l s → Calls Try.prog 18 #[.agg #[.slice a n c, .int .i64 s]] w' fun e w'' => ∃ g c, e = .returned (.slice (some ⟨g, 0, none⟩) N c) ∧ IntsAt w'' g zs ∧ Below w'.heap.size w' w'') := Lib.hid (by
    intro w' hw'
    have := owners_any l s _ w' hw' hr
    rw [hzs, hNl] at this
    exact this)
  generalize hY : bytesY l s l.length = Y
  have HY := Lib.hid hY
  have hYs : Y.size ≤ 100 := by rw [← hY, bytesY_size, hn]; omega
  clear hr hzs hNl hY
  obtain ⟨kk, u, hl, hok⟩ : ∃ kk u, l[k] = (kk, u) ∧ okG (kk, u) = true := ⟨l[k].1, l[k].2, rfl, HR.out.all k hk⟩
  have HL : Hid (∃ hk : k < l.length, l[k] = (kk, u)) := Lib.hid ⟨hk, hl⟩
  have hkn : k < n := by rw [← hn]; exact hk
  have s0 := HR.out.s0
  have s1 := HR.out.s1
  obtain ⟨f, hf⟩ : ∃ f : Nat, aheadL l k = (f : Int) := ⟨(aheadL l k).toNat, by have := (HR.out.bounds k (Nat.le_of_lt hk)).1; omega⟩
  have HF : Hid (firstL l s (k : Int) = (f : Int)) := Lib.hid (by
    rw [firstL, hasL_iff.2 ⟨HR.out, k, rfl, hk⟩, if_pos rfl]; exact hf)
  have hfk : zs[f]? = some (k : Int) := by
    have hw := okG_wide hok
    rw [← HZ.out]
    exact ownTo_get HR.out hk hl (j := 0) (by have := hw.1; dsimp only at this; omega) (by omega)
  have hfN : f < N := by
    rw [← HNl.out]
    rcases Nat.lt_or_ge f zs.length with h | h
    · exact h
    · rw [List.getElem?_eq_none h] at hfk; cases hfk
  have hfp : ∀ f' : Nat, f = f' + 1 → ∃ z : Int, zs[f']? = some z ∧ z ≠ (k : Int) := by
    intro f' e
    cases k with
    | zero => rw [aheadL_zero] at hf; omega
    | succ k' =>
      obtain ⟨p', u', hl'⟩ : ∃ p' u', l[k'] = (p', u') := ⟨_, _, rfl⟩
      have hw := okG_wide (HR.out.all k' (by omega))
      rw [hl'] at hw
      dsimp only at hw
      have ha := aheadL_succ l k' (by omega)
      rw [hl', hf] at ha
      dsimp only at ha
      refine ⟨(k' : Int), ?_, by omega⟩
      rw [← HZ.out]
      exact ownTo_get HR.out (by omega) hl' (j := (u' - 1).toNat) (by omega) (by omega)
  have HFK := Lib.hid hfk
  have HFP := Lib.hid hfp
  have HOK := Lib.hid hok
  have HG : Hid (∀ x : Int, gives (kk, u) s = x → gives l[k] s = x) := Lib.hid (fun x e => by rw [hl]; exact e)
  have HT : Hid (∀ z x : Int, takesG (kk, u) z = x → takesG l[k] z = x) := Lib.hid (fun z x e => by rw [hl]; exact e)
  clear hl hfk hfp hok hf
  clear h hg hn
  go_enter Try.func5, Try.ntmps5
  go_wp2_with fail
  refine (awake_any _).mono ?_
  rintro e w1 ⟨rfl, b1⟩
  have K1 := Lib.hid (K.out.next b1)
  have c0 := K1.out.c0
  have c1 := K1.out.c1
  clear b1 K
  go_wp2_with fail
  refine (refRight_any l s _ _ K1.out.m true HB.out).mono ?_
  rintro e w2 ⟨rfl, b2⟩
  have K2 := Lib.hid (K1.out.next b2)
  clear c0 c1 b2 K1
  have c0 := K2.out.c0
  have c1 := K2.out.c1
  go_wp2_with fail
  refine (right_any l s _ _ K2.out.m true HB.out).mono ?_
  rintro e w3 ⟨rfl, b3⟩
  have K3 := Lib.hid (K2.out.next b3)
  clear c0 c1 b3 K2
  have c0 := K3.out.c0
  have c1 := K3.out.c1
  go_wp2_with fail
  refine (HO.out _ K3.out.m).mono ?_
  rintro e w4 ⟨og, oc, rfl, hI, b4⟩
  have K4 := Lib.hid (HeldO.mk (K3.out.next b4) hI)
  clear c0 c1 b4 K3 hI HO
  go_wp2_with fail
  have HC1 : Hid (∀ x : KO w w.heap.size a n c s l og zs, Calls Try.prog 12 #[.agg #[.slice a n c, .int .i64 s]] x.v fun e w' => e = .returned (.int .i64 (N : Int)) ∧ ∃ y : KO w w.heap.size a n c s l og zs, w' = y.v) :=
    Lib.hid (fun x => (devs_any l s _ x.v x.h.h.m (N : Int) HD.out).mono fun e w' ⟨he, hb⟩ => ⟨he, ⟨w', x.h.next hb⟩, rfl⟩)
  have HC2 : Hid (∀ x : KO w w.heap.size a n c s l og zs, Calls Try.prog 17 #[.agg #[.slice a n c, .int .i64 s]] x.v fun e w' => e = .returned (.string Y) ∧ ∃ y : KO w w.heap.size a n c s l og zs, w' = y.v) :=
    Lib.hid (fun x => (bytes_some l s _ x.v x.h.h.m HR.out).mono fun e w' ⟨he, hb⟩ => ⟨by rw [← HY.out]; exact he, ⟨w', x.h.next hb⟩, rfl⟩)
  have HC3 : Hid (∀ x : KO w w.heap.size a n c s l og zs, Calls Try.prog 19 #[.agg #[.slice a n c, .int .i64 s]] x.v fun e w' => e = .returned (.string Y) ∧ ∃ y : KO w w.heap.size a n c s l og zs, w' = y.v) :=
    Lib.hid (fun x => (refBytes_any l s _ x.v x.h.h.m HR.out).mono fun e w' ⟨he, hb⟩ => ⟨by rw [← HY.out]; exact he, ⟨w', x.h.next hb⟩, rfl⟩)
  have eN : ((N : Int) != (N : Int)) = false := by simp
  have eY : (Y.toList != Y.toList) = false := by simp
  have k0 := fun x : KO w w.heap.size a n c s l og zs => x.h.h.c0
  have k1 := fun x : KO w w.heap.size a n c s l og zs => x.h.h.c1
  haveI hne : Nonempty (KO w w.heap.size a n c s l og zs) := ⟨⟨w4, K4.out⟩⟩
  refine wp_region_family (KO.v (w0 := w) (b := w.heap.size) (a := a) (n := n) (c := c) (s := s) (l := l) (og := og) (zs := zs)) (by kernel_rfl) (by kernel_rfl) ⟨⟨_, K4.out.drew⟩, rfl⟩ ?_
  repeat (go_big_quiet_step (first | (go_at_call 12; exact HC1.out _) | (go_at_call 17; exact HC2.out _) | (go_at_call 19; exact HC3.out _)))
  refine wpQuiet_nil ?_
  rintro w5' ⟨⟨w5, K5⟩, rfl⟩
  have K5 := Lib.hid K5
  clear HC1 HC2 HC3 eN eY k0 k1 hne K4 HY hYs
  try dsimp only
  have c0 := K5.out.h.c0
  have c1 := K5.out.h.c1
  go_wp2_with fail
  refine (first_any l s _ _ K5.out.h.m (k : Int) HI.out (f : Int) HF.out).mono ?_
  rintro e w6 ⟨rfl, b6⟩
  have K6 := Lib.hid (K5.out.next b6)
  clear c0 c1 b6 K5
  have c0 := K6.out.h.c0
  have c1 := K6.out.h.c1
  obtain ⟨g, o, rfl, hlt2, e0, e1⟩ := K6.out.h.at_ HL.out.1 HL.out.2
  dsimp only at e0 e1
  have r0 := K6.out.r.at_ f _ HFK.out
  have hkk : ((k : Int) != (k : Int)) = false := by simp
  have KP0 := Lib.hid (HeldP.start K6.out.h (kk, u))
  have n1 := KP0.out.h.c0
  have n2 := KP0.out.h.c1
  dsimp only at KP0 n1 n2
  cases f with
  | zero =>
    clear HFP
    rcases okG_cases HOK.out with ⟨rfl, u1, u8⟩ | ⟨rfl, u1, u8⟩
    · go_wp2_with fail
      have HGx := Lib.hid (HG.out (s - 16) rfl)
      generalize hX : s - 16 = X at HGx
      clear hX
      generalize hpb : w6.heap.size = pb at KP0
      generalize w6.alloc (.cells #[.int .i64 (0 : Int), .int .i64 u] 32) = w7 at KP0
      clear c0 c1 e0 e1 r0 n1 n2 hkk hlt2 hpb
      have k0 := fun x : KP w w.heap.size (some ⟨g, o, none⟩) n c s l pb (0, u) => x.h.h.c0
      have k1 := fun x : KP w w.heap.size (some ⟨g, o, none⟩) n c s l pb (0, u) => x.h.h.c1
      have k2 := fun x : KP w w.heap.size (some ⟨g, o, none⟩) n c s l pb (0, u) => x.h.p0
      have k3 := fun x : KP w w.heap.size (some ⟨g, o, none⟩) n c s l pb (0, u) => x.h.p1
      dsimp only at k2 k3
      have HC1 : Hid (∀ x : KP w w.heap.size (some ⟨g, o, none⟩) n c s l pb (0, u), Calls Try.prog 16 #[.agg #[.slice (some ⟨g, o, none⟩) n c, .int .i64 s], .int .i64 (k : Int)] x.v fun e w' => e = .returned (.int .i64 X) ∧ ∃ y : KP w w.heap.size (some ⟨g, o, none⟩) n c s l pb (0, u), w' = y.v) :=
        Lib.hid (fun x => (sectors_some l s _ x.v x.h.h.m HR.out k hk X HGx.out).mono fun e w' ⟨he, hb⟩ => ⟨he, ⟨w', x.h.next hb⟩, rfl⟩)
      have eX : (X == X) = true := by simp
      haveI hne : Nonempty (KP w w.heap.size (some ⟨g, o, none⟩) n c s l pb (0, u)) := ⟨⟨w7, KP0.out⟩⟩
      by_cases hz1 : z < 1
      · have t1 : decide (z < 1) = true := by simp [hz1]
        refine wp_region_family (KP.v (w0 := w) (b := w.heap.size) (a := some ⟨g, o, none⟩) (n := n) (c := c) (s := s) (l := l) (pb := pb) (x := (0, u))) (by kernel_rfl) (by kernel_rfl) ⟨⟨_, KP0.out.drew⟩, rfl⟩ ?_
        repeat (go_big_quiet_step (first | (go_at_call 16; exact HC1.out _)))
        refine wpQuiet_nil ?_
        rintro w8' ⟨⟨w8, K8⟩, rfl⟩
        go_wp2
        go_ret
        exact ⟨by simp, K8.h.below⟩
      · have t1 : decide (z < 1) = false := by simp; omega
        by_cases hz4 : 4 < z
        · have t2 : decide (4 < z) = true := by simp [hz4]
          refine wp_region_family (KP.v (w0 := w) (b := w.heap.size) (a := some ⟨g, o, none⟩) (n := n) (c := c) (s := s) (l := l) (pb := pb) (x := (0, u))) (by kernel_rfl) (by kernel_rfl) ⟨⟨_, KP0.out.drew⟩, rfl⟩ ?_
          repeat (go_big_quiet_step (first | (go_at_call 16; exact HC1.out _)))
          refine wpQuiet_nil ?_
          rintro w8' ⟨⟨w8, K8⟩, rfl⟩
          go_wp2
          go_ret
          exact ⟨by simp, K8.h.below⟩
        · have t2 : decide (4 < z) = false := by simp; omega
          generalize hT : takesG (0, u) z = T
          have HTx := Lib.hid (HT.out z T hT)
          have HTy := Lib.hid hT
          have HC2 : Hid (∀ x : KP w w.heap.size (some ⟨g, o, none⟩) n c s l pb (0, u), Calls Try.prog 14 #[.agg #[.slice (some ⟨g, o, none⟩) n c, .int .i64 s], .int .i64 (k : Int), .int .i64 z] x.v fun e w' => e = .returned (.int .i64 T) ∧ ∃ y : KP w w.heap.size (some ⟨g, o, none⟩) n c s l pb (0, u), w' = y.v) :=
            Lib.hid (fun x => (takes_some l s _ x.v x.h.h.m HR.out k hk z (by omega) (by omega) T HTx.out).mono fun e w' ⟨he, hb⟩ => ⟨he, ⟨w', x.h.next hb⟩, rfl⟩)
          have HC3 : Hid (∀ x : KP w w.heap.size (some ⟨g, o, none⟩) n c s l pb (0, u), Calls Try.prog 20 #[.agg #[.int .i64 0, .int .i64 u], .int .i64 z] x.v fun e w' => e = .returned (.int .i64 T) ∧ ∃ y : KP w w.heap.size (some ⟨g, o, none⟩) n c s l pb (0, u), w' = y.v) :=
            Lib.hid (fun x => (refTakes_any 0 u z x.v HOK.out (by omega) (by omega) T HTy.out).mono fun e w' ⟨he, hb⟩ => ⟨he, ⟨w', x.h.next hb⟩, rfl⟩)
          have eT : (T == T) = true := by simp
          clear hT
          refine wp_region_family (KP.v (w0 := w) (b := w.heap.size) (a := some ⟨g, o, none⟩) (n := n) (c := c) (s := s) (l := l) (pb := pb) (x := (0, u))) (by kernel_rfl) (by kernel_rfl) ⟨⟨_, KP0.out.drew⟩, rfl⟩ ?_
          repeat (go_big_quiet_step (first | (go_at_call 16; exact HC1.out _) | (go_at_call 14; exact HC2.out _) | (go_at_call 20; exact HC3.out _)))
          refine wpQuiet_nil ?_
          rintro w8' ⟨⟨w8, K8⟩, rfl⟩
          go_wp2
          go_ret
          exact ⟨by simp, K8.h.below⟩
    · have hm0 : 0 ≤ (s - 16) * u := Int.mul_nonneg (by omega) (by omega)
      have hm1 : (s - 16) * u ≤ 32640 := by
        have : (s - 16) * u ≤ 4080 * 8 := Int.mul_le_mul (by omega) u8 (by omega) (by omega)
        omega
      go_wp2_with fail
      have HGx := Lib.hid (HG.out ((s - 16) * u) rfl)
      generalize hX : (s - 16) * u = X at HGx
      clear hX
      generalize hpb : w6.heap.size = pb at KP0
      generalize w6.alloc (.cells #[.int .i64 (1 : Int), .int .i64 u] 32) = w7 at KP0
      clear c0 c1 e0 e1 r0 n1 n2 hkk hlt2 hpb
      have k0 := fun x : KP w w.heap.size (some ⟨g, o, none⟩) n c s l pb (1, u) => x.h.h.c0
      have k1 := fun x : KP w w.heap.size (some ⟨g, o, none⟩) n c s l pb (1, u) => x.h.h.c1
      have k2 := fun x : KP w w.heap.size (some ⟨g, o, none⟩) n c s l pb (1, u) => x.h.p0
      have k3 := fun x : KP w w.heap.size (some ⟨g, o, none⟩) n c s l pb (1, u) => x.h.p1
      dsimp only at k2 k3
      have HC1 : Hid (∀ x : KP w w.heap.size (some ⟨g, o, none⟩) n c s l pb (1, u), Calls Try.prog 16 #[.agg #[.slice (some ⟨g, o, none⟩) n c, .int .i64 s], .int .i64 (k : Int)] x.v fun e w' => e = .returned (.int .i64 X) ∧ ∃ y : KP w w.heap.size (some ⟨g, o, none⟩) n c s l pb (1, u), w' = y.v) :=
        Lib.hid (fun x => (sectors_some l s _ x.v x.h.h.m HR.out k hk X HGx.out).mono fun e w' ⟨he, hb⟩ => ⟨he, ⟨w', x.h.next hb⟩, rfl⟩)
      have eX : (X == X) = true := by simp
      haveI hne : Nonempty (KP w w.heap.size (some ⟨g, o, none⟩) n c s l pb (1, u)) := ⟨⟨w7, KP0.out⟩⟩
      by_cases hz1 : z < 1
      · have t1 : decide (z < 1) = true := by simp [hz1]
        refine wp_region_family (KP.v (w0 := w) (b := w.heap.size) (a := some ⟨g, o, none⟩) (n := n) (c := c) (s := s) (l := l) (pb := pb) (x := (1, u))) (by kernel_rfl) (by kernel_rfl) ⟨⟨_, KP0.out.drew⟩, rfl⟩ ?_
        repeat (go_big_quiet_step (first | (go_at_call 16; exact HC1.out _)))
        refine wpQuiet_nil ?_
        rintro w8' ⟨⟨w8, K8⟩, rfl⟩
        go_wp2
        go_ret
        exact ⟨by simp, K8.h.below⟩
      · have t1 : decide (z < 1) = false := by simp; omega
        by_cases hz4 : 4 < z
        · have t2 : decide (4 < z) = true := by simp [hz4]
          refine wp_region_family (KP.v (w0 := w) (b := w.heap.size) (a := some ⟨g, o, none⟩) (n := n) (c := c) (s := s) (l := l) (pb := pb) (x := (1, u))) (by kernel_rfl) (by kernel_rfl) ⟨⟨_, KP0.out.drew⟩, rfl⟩ ?_
          repeat (go_big_quiet_step (first | (go_at_call 16; exact HC1.out _)))
          refine wpQuiet_nil ?_
          rintro w8' ⟨⟨w8, K8⟩, rfl⟩
          go_wp2
          go_ret
          exact ⟨by simp, K8.h.below⟩
        · have t2 : decide (4 < z) = false := by simp; omega
          generalize hT : takesG (1, u) z = T
          have HTx := Lib.hid (HT.out z T hT)
          have HTy := Lib.hid hT
          have HC2 : Hid (∀ x : KP w w.heap.size (some ⟨g, o, none⟩) n c s l pb (1, u), Calls Try.prog 14 #[.agg #[.slice (some ⟨g, o, none⟩) n c, .int .i64 s], .int .i64 (k : Int), .int .i64 z] x.v fun e w' => e = .returned (.int .i64 T) ∧ ∃ y : KP w w.heap.size (some ⟨g, o, none⟩) n c s l pb (1, u), w' = y.v) :=
            Lib.hid (fun x => (takes_some l s _ x.v x.h.h.m HR.out k hk z (by omega) (by omega) T HTx.out).mono fun e w' ⟨he, hb⟩ => ⟨he, ⟨w', x.h.next hb⟩, rfl⟩)
          have HC3 : Hid (∀ x : KP w w.heap.size (some ⟨g, o, none⟩) n c s l pb (1, u), Calls Try.prog 20 #[.agg #[.int .i64 1, .int .i64 u], .int .i64 z] x.v fun e w' => e = .returned (.int .i64 T) ∧ ∃ y : KP w w.heap.size (some ⟨g, o, none⟩) n c s l pb (1, u), w' = y.v) :=
            Lib.hid (fun x => (refTakes_any 1 u z x.v HOK.out (by omega) (by omega) T HTy.out).mono fun e w' ⟨he, hb⟩ => ⟨he, ⟨w', x.h.next hb⟩, rfl⟩)
          have eT : (T == T) = true := by simp
          clear hT
          refine wp_region_family (KP.v (w0 := w) (b := w.heap.size) (a := some ⟨g, o, none⟩) (n := n) (c := c) (s := s) (l := l) (pb := pb) (x := (1, u))) (by kernel_rfl) (by kernel_rfl) ⟨⟨_, KP0.out.drew⟩, rfl⟩ ?_
          repeat (go_big_quiet_step (first | (go_at_call 16; exact HC1.out _) | (go_at_call 14; exact HC2.out _) | (go_at_call 20; exact HC3.out _)))
          refine wpQuiet_nil ?_
          rintro w8' ⟨⟨w8, K8⟩, rfl⟩
          go_wp2
          go_ret
          exact ⟨by simp, K8.h.below⟩
  | succ f' =>
    obtain ⟨zz, hz1, hz2⟩ := HFP.out f' rfl
    have r1 := K6.out.r.at_ f' _ hz1
    have hzk : (zz == (k : Int)) = false := by simp [hz2]
    clear HFP hz1 hz2
    rcases okG_cases HOK.out with ⟨rfl, u1, u8⟩ | ⟨rfl, u1, u8⟩
    · go_wp2_with fail
      have HGx := Lib.hid (HG.out (s - 16) rfl)
      generalize hX : s - 16 = X at HGx
      clear hX
      generalize hpb : w6.heap.size = pb at KP0
      generalize w6.alloc (.cells #[.int .i64 (0 : Int), .int .i64 u] 32) = w7 at KP0
      clear c0 c1 e0 e1 r0 n1 n2 hkk r1 hzk hlt2 hpb
      have k0 := fun x : KP w w.heap.size (some ⟨g, o, none⟩) n c s l pb (0, u) => x.h.h.c0
      have k1 := fun x : KP w w.heap.size (some ⟨g, o, none⟩) n c s l pb (0, u) => x.h.h.c1
      have k2 := fun x : KP w w.heap.size (some ⟨g, o, none⟩) n c s l pb (0, u) => x.h.p0
      have k3 := fun x : KP w w.heap.size (some ⟨g, o, none⟩) n c s l pb (0, u) => x.h.p1
      dsimp only at k2 k3
      have HC1 : Hid (∀ x : KP w w.heap.size (some ⟨g, o, none⟩) n c s l pb (0, u), Calls Try.prog 16 #[.agg #[.slice (some ⟨g, o, none⟩) n c, .int .i64 s], .int .i64 (k : Int)] x.v fun e w' => e = .returned (.int .i64 X) ∧ ∃ y : KP w w.heap.size (some ⟨g, o, none⟩) n c s l pb (0, u), w' = y.v) :=
        Lib.hid (fun x => (sectors_some l s _ x.v x.h.h.m HR.out k hk X HGx.out).mono fun e w' ⟨he, hb⟩ => ⟨he, ⟨w', x.h.next hb⟩, rfl⟩)
      have eX : (X == X) = true := by simp
      haveI hne : Nonempty (KP w w.heap.size (some ⟨g, o, none⟩) n c s l pb (0, u)) := ⟨⟨w7, KP0.out⟩⟩
      by_cases hz1 : z < 1
      · have t1 : decide (z < 1) = true := by simp [hz1]
        refine wp_region_family (KP.v (w0 := w) (b := w.heap.size) (a := some ⟨g, o, none⟩) (n := n) (c := c) (s := s) (l := l) (pb := pb) (x := (0, u))) (by kernel_rfl) (by kernel_rfl) ⟨⟨_, KP0.out.drew⟩, rfl⟩ ?_
        repeat (go_big_quiet_step (first | (go_at_call 16; exact HC1.out _)))
        refine wpQuiet_nil ?_
        rintro w8' ⟨⟨w8, K8⟩, rfl⟩
        go_wp2
        go_ret
        exact ⟨by simp, K8.h.below⟩
      · have t1 : decide (z < 1) = false := by simp; omega
        by_cases hz4 : 4 < z
        · have t2 : decide (4 < z) = true := by simp [hz4]
          refine wp_region_family (KP.v (w0 := w) (b := w.heap.size) (a := some ⟨g, o, none⟩) (n := n) (c := c) (s := s) (l := l) (pb := pb) (x := (0, u))) (by kernel_rfl) (by kernel_rfl) ⟨⟨_, KP0.out.drew⟩, rfl⟩ ?_
          repeat (go_big_quiet_step (first | (go_at_call 16; exact HC1.out _)))
          refine wpQuiet_nil ?_
          rintro w8' ⟨⟨w8, K8⟩, rfl⟩
          go_wp2
          go_ret
          exact ⟨by simp, K8.h.below⟩
        · have t2 : decide (4 < z) = false := by simp; omega
          generalize hT : takesG (0, u) z = T
          have HTx := Lib.hid (HT.out z T hT)
          have HTy := Lib.hid hT
          have HC2 : Hid (∀ x : KP w w.heap.size (some ⟨g, o, none⟩) n c s l pb (0, u), Calls Try.prog 14 #[.agg #[.slice (some ⟨g, o, none⟩) n c, .int .i64 s], .int .i64 (k : Int), .int .i64 z] x.v fun e w' => e = .returned (.int .i64 T) ∧ ∃ y : KP w w.heap.size (some ⟨g, o, none⟩) n c s l pb (0, u), w' = y.v) :=
            Lib.hid (fun x => (takes_some l s _ x.v x.h.h.m HR.out k hk z (by omega) (by omega) T HTx.out).mono fun e w' ⟨he, hb⟩ => ⟨he, ⟨w', x.h.next hb⟩, rfl⟩)
          have HC3 : Hid (∀ x : KP w w.heap.size (some ⟨g, o, none⟩) n c s l pb (0, u), Calls Try.prog 20 #[.agg #[.int .i64 0, .int .i64 u], .int .i64 z] x.v fun e w' => e = .returned (.int .i64 T) ∧ ∃ y : KP w w.heap.size (some ⟨g, o, none⟩) n c s l pb (0, u), w' = y.v) :=
            Lib.hid (fun x => (refTakes_any 0 u z x.v HOK.out (by omega) (by omega) T HTy.out).mono fun e w' ⟨he, hb⟩ => ⟨he, ⟨w', x.h.next hb⟩, rfl⟩)
          have eT : (T == T) = true := by simp
          clear hT
          refine wp_region_family (KP.v (w0 := w) (b := w.heap.size) (a := some ⟨g, o, none⟩) (n := n) (c := c) (s := s) (l := l) (pb := pb) (x := (0, u))) (by kernel_rfl) (by kernel_rfl) ⟨⟨_, KP0.out.drew⟩, rfl⟩ ?_
          repeat (go_big_quiet_step (first | (go_at_call 16; exact HC1.out _) | (go_at_call 14; exact HC2.out _) | (go_at_call 20; exact HC3.out _)))
          refine wpQuiet_nil ?_
          rintro w8' ⟨⟨w8, K8⟩, rfl⟩
          go_wp2
          go_ret
          exact ⟨by simp, K8.h.below⟩
    · have hm0 : 0 ≤ (s - 16) * u := Int.mul_nonneg (by omega) (by omega)
      have hm1 : (s - 16) * u ≤ 32640 := by
        have : (s - 16) * u ≤ 4080 * 8 := Int.mul_le_mul (by omega) u8 (by omega) (by omega)
        omega
      go_wp2_with fail
      have HGx := Lib.hid (HG.out ((s - 16) * u) rfl)
      generalize hX : (s - 16) * u = X at HGx
      clear hX
      generalize hpb : w6.heap.size = pb at KP0
      generalize w6.alloc (.cells #[.int .i64 (1 : Int), .int .i64 u] 32) = w7 at KP0
      clear c0 c1 e0 e1 r0 n1 n2 hkk r1 hzk hlt2 hpb
      have k0 := fun x : KP w w.heap.size (some ⟨g, o, none⟩) n c s l pb (1, u) => x.h.h.c0
      have k1 := fun x : KP w w.heap.size (some ⟨g, o, none⟩) n c s l pb (1, u) => x.h.h.c1
      have k2 := fun x : KP w w.heap.size (some ⟨g, o, none⟩) n c s l pb (1, u) => x.h.p0
      have k3 := fun x : KP w w.heap.size (some ⟨g, o, none⟩) n c s l pb (1, u) => x.h.p1
      dsimp only at k2 k3
      have HC1 : Hid (∀ x : KP w w.heap.size (some ⟨g, o, none⟩) n c s l pb (1, u), Calls Try.prog 16 #[.agg #[.slice (some ⟨g, o, none⟩) n c, .int .i64 s], .int .i64 (k : Int)] x.v fun e w' => e = .returned (.int .i64 X) ∧ ∃ y : KP w w.heap.size (some ⟨g, o, none⟩) n c s l pb (1, u), w' = y.v) :=
        Lib.hid (fun x => (sectors_some l s _ x.v x.h.h.m HR.out k hk X HGx.out).mono fun e w' ⟨he, hb⟩ => ⟨he, ⟨w', x.h.next hb⟩, rfl⟩)
      have eX : (X == X) = true := by simp
      haveI hne : Nonempty (KP w w.heap.size (some ⟨g, o, none⟩) n c s l pb (1, u)) := ⟨⟨w7, KP0.out⟩⟩
      by_cases hz1 : z < 1
      · have t1 : decide (z < 1) = true := by simp [hz1]
        refine wp_region_family (KP.v (w0 := w) (b := w.heap.size) (a := some ⟨g, o, none⟩) (n := n) (c := c) (s := s) (l := l) (pb := pb) (x := (1, u))) (by kernel_rfl) (by kernel_rfl) ⟨⟨_, KP0.out.drew⟩, rfl⟩ ?_
        repeat (go_big_quiet_step (first | (go_at_call 16; exact HC1.out _)))
        refine wpQuiet_nil ?_
        rintro w8' ⟨⟨w8, K8⟩, rfl⟩
        go_wp2
        go_ret
        exact ⟨by simp, K8.h.below⟩
      · have t1 : decide (z < 1) = false := by simp; omega
        by_cases hz4 : 4 < z
        · have t2 : decide (4 < z) = true := by simp [hz4]
          refine wp_region_family (KP.v (w0 := w) (b := w.heap.size) (a := some ⟨g, o, none⟩) (n := n) (c := c) (s := s) (l := l) (pb := pb) (x := (1, u))) (by kernel_rfl) (by kernel_rfl) ⟨⟨_, KP0.out.drew⟩, rfl⟩ ?_
          repeat (go_big_quiet_step (first | (go_at_call 16; exact HC1.out _)))
          refine wpQuiet_nil ?_
          rintro w8' ⟨⟨w8, K8⟩, rfl⟩
          go_wp2
          go_ret
          exact ⟨by simp, K8.h.below⟩
        · have t2 : decide (4 < z) = false := by simp; omega
          generalize hT : takesG (1, u) z = T
          have HTx := Lib.hid (HT.out z T hT)
          have HTy := Lib.hid hT
          have HC2 : Hid (∀ x : KP w w.heap.size (some ⟨g, o, none⟩) n c s l pb (1, u), Calls Try.prog 14 #[.agg #[.slice (some ⟨g, o, none⟩) n c, .int .i64 s], .int .i64 (k : Int), .int .i64 z] x.v fun e w' => e = .returned (.int .i64 T) ∧ ∃ y : KP w w.heap.size (some ⟨g, o, none⟩) n c s l pb (1, u), w' = y.v) :=
            Lib.hid (fun x => (takes_some l s _ x.v x.h.h.m HR.out k hk z (by omega) (by omega) T HTx.out).mono fun e w' ⟨he, hb⟩ => ⟨he, ⟨w', x.h.next hb⟩, rfl⟩)
          have HC3 : Hid (∀ x : KP w w.heap.size (some ⟨g, o, none⟩) n c s l pb (1, u), Calls Try.prog 20 #[.agg #[.int .i64 1, .int .i64 u], .int .i64 z] x.v fun e w' => e = .returned (.int .i64 T) ∧ ∃ y : KP w w.heap.size (some ⟨g, o, none⟩) n c s l pb (1, u), w' = y.v) :=
            Lib.hid (fun x => (refTakes_any 1 u z x.v HOK.out (by omega) (by omega) T HTy.out).mono fun e w' ⟨he, hb⟩ => ⟨he, ⟨w', x.h.next hb⟩, rfl⟩)
          have eT : (T == T) = true := by simp
          clear hT
          refine wp_region_family (KP.v (w0 := w) (b := w.heap.size) (a := some ⟨g, o, none⟩) (n := n) (c := c) (s := s) (l := l) (pb := pb) (x := (1, u))) (by kernel_rfl) (by kernel_rfl) ⟨⟨_, KP0.out.drew⟩, rfl⟩ ?_
          repeat (go_big_quiet_step (first | (go_at_call 16; exact HC1.out _) | (go_at_call 14; exact HC2.out _) | (go_at_call 20; exact HC3.out _)))
          refine wpQuiet_nil ?_
          rintro w8' ⟨⟨w8, K8⟩, rfl⟩
          go_wp2
          go_ret
          exact ⟨by simp, K8.h.below⟩

theorem walk_GeomPlays (v0 : Value) (l0 : List (Int × Int)) (s0 a1 a2 : Int) (w : World) (w0 : Meas w v0 l0 s0) (w1 : (Lit.int .i64 a1).wf = true) (w2 : (Lit.int .i64 a2).wf = true) :
    Calls Try.prog 5 #[v0, .int .i64 a1, .int .i64 a2] w fun e w' => e = .returned (.bool true) ∧ Below w.heap.size w w' := by
  obtain ⟨i0, i1⟩ := bounds_i64 w1
  obtain ⟨z0, z1⟩ := bounds_i64 w2
  by_cases hlong : 100 < l0.length
  · exact playsLong v0 l0 s0 a1 a2 w w0 hlong
  cases hr : rightL l0 s0 with
  | false => exact playsNot v0 l0 s0 a1 a2 w w0 (by omega) i0 i1 hr
  | true =>
    by_cases h : a1 < 0 ∨ (l0.length : Int) ≤ a1
    · exact playsOut v0 l0 s0 a1 a2 w w0 (by omega) i0 i1 (rightM_iff.1 hr) h
    · exact playsIn v0 l0 s0 a1 a2 w w0 (by omega) i0 i1 z0 z1 (rightM_iff.1 hr) a1.toNat (by omega) (by omega)
end Go.Proofs.Ytpbhbpopebjgiaa
