/-
  The walk of polderlaw05.GeomBytes.
-/
import Derived.Test.YtpbhbpopebjgiaaGi
namespace Go.Proofs.Ytpbhbpopebjgiaa
open Go.RowKit M

theorem ba_append_inj {a b c d : ByteArray} (h : a ++ b = c ++ d) (hs : a.size = c.size) : a = c ∧ b = d := by
  have e := congrArg (fun x : ByteArray => x.data.toList) h
  simp only [ByteArray.data_append, Array.toList_append] at e
  have hs' : a.data.toList.length = c.data.toList.length := by simpa using hs
  obtain ⟨e1, e2⟩ := List.append_inj e hs'
  exact ⟨ByteArray.ext (Array.toList_inj.1 e1), ByteArray.ext (Array.toList_inj.1 e2)⟩
theorem u4_inj {x y : Nat} (hx : x < 4294967296) (hy : y < 4294967296) (h : u4 x = u4 y) : x = y := by
  unfold u4 at h
  have e : layL x 4 = layL y 4 := by simpa using h
  exact layL_inj (by simpa using hx) (by simpa using hy) e
/-- Alike, up to the k-th group. -/
def likeTo (l l' : List (Int × Int)) (s s' : Int) (k : Nat) : Prop := s = s' ∧ l.length = l'.length ∧ ∀ j, j < k → l[j]? = l'[j]?
/-- A Bool that says so. -/
def LikeB (b : Bool) (l l' : List (Int × Int)) (s s' : Int) (k : Nat) : Prop := b = true ↔ likeTo l l' s s' k
def AlikeB (b : Bool) (l l' : List (Int × Int)) (s s' : Int) : Prop := b = true ↔ s = s' ∧ l = l'
theorem likeTo_all {l l' : List (Int × Int)} {s s' : Int} (h : likeTo l l' s s' l.length) : s = s' ∧ l = l' := by
  obtain ⟨h1, h2, h3⟩ := h
  refine ⟨h1, List.ext_getElem? fun j => ?_⟩
  by_cases hj : j < l.length
  · exact h3 j hj
  · rw [List.getElem?_eq_none (by omega), List.getElem?_eq_none (by omega)]
theorem okG_nat {x : Int × Int} (h : okG x = true) : ∃ p q : Nat, x = ((p : Int), (q : Int)) ∧ p ≤ 1 ∧ q ≤ 8 := by
  obtain ⟨k, d⟩ := x
  rcases okG_cases h with ⟨rfl, h1, h2⟩ | ⟨rfl, h1, h2⟩
  · exact ⟨0, d.toNat, by simp; omega, by omega, by omega⟩
  · exact ⟨1, d.toNat, by simp; omega, by omega, by omega⟩
theorem bytesY_inj {l l' : List (Int × Int)} {s s' : Int} (hr : RightM l s) (hr' : RightM l' s') (k : Nat) (hk : k ≤ l.length) (hk' : k ≤ l'.length) (h : bytesY l s k = bytesY l' s' k) : likeTo l l' s s' k := by
  induction k with
  | zero =>
    obtain ⟨e1, e2⟩ := ba_append_inj h (by rw [u4_size, u4_size])
    have f1 := u4_inj (by have := hr.few; omega) (by have := hr'.few; omega) e1
    have f2 := u4_inj (by have := hr.s1; omega) (by have := hr'.s1; omega) e2
    have := hr.s0
    have := hr'.s0
    exact ⟨by omega, f1, fun j hj => absurd hj (Nat.not_lt_zero _)⟩
  | succ k ih =>
    obtain ⟨p, q, hpq, hp, hq⟩ := okG_nat (hr.all k hk)
    obtain ⟨p', q', hpq', hp', hq'⟩ := okG_nat (hr'.all k hk')
    rw [bytesY_succ hk hpq, bytesY_succ hk' hpq'] at h
    obtain ⟨e1, e2⟩ := ba_append_inj h (by rw [bytesY_size, bytesY_size])
    obtain ⟨e3, e4⟩ := ba_append_inj e2 (by rw [u4_size, u4_size])
    have f1 := u4_inj (by omega) (by omega) e3
    have f2 := u4_inj (by omega) (by omega) e4
    obtain ⟨g1, g2, g3⟩ := ih (by omega) (by omega) e1
    refine ⟨g1, g2, fun j hj => ?_⟩
    by_cases e : j = k
    · subst e
      rw [List.getElem?_eq_getElem hk, List.getElem?_eq_getElem hk', hpq, hpq', f1, f2]
    · exact g3 j (by omega)
theorem bytesY_iff {l l' : List (Int × Int)} {s s' : Int} (hr : RightM l s) (hr' : RightM l' s') : bytesY l s l.length = bytesY l' s' l'.length ↔ s = s' ∧ l = l' := by
  constructor
  · intro h
    have hs := congrArg ByteArray.size h
    rw [bytesY_size, bytesY_size] at hs
    have hl : l.length = l'.length := by omega
    rw [← hl] at h
    exact likeTo_all (bytesY_inj hr hr' l.length (Nat.le_refl _) (by omega) h)
  · rintro ⟨rfl, rfl⟩; rfl

theorem Held.begin {w0 w : World} {a : Option Addr} {n c : Nat} {s : Int} {l : List (Int × Int)} (h : Meas w (.agg #[.slice a n c, .int .i64 s]) l s) (hb : Below w0.heap.size w0 w) :
    Held w0 (w.alloc (.cells #[.slice a n c, .int .i64 s] 24)) w.heap.size a n c s l :=
  ⟨by simp, by simp, by simp, h.below (boxed _ _), Proofs.Ytpbhbpopebjgiaa.next hb (boxed _ _)⟩
/-- Two measures in boxes. -/
structure Held2 (w0 w : World) (a : Option Addr) (n c : Nat) (s : Int) (l : List (Int × Int)) (a' : Option Addr) (n' c' : Nat) (s' : Int) (l' : List (Int × Int)) : Prop where
  h : Held w0 w w0.heap.size a n c s l
  k : Held w0 w (w0.heap.size + 1) a' n' c' s' l'
theorem Held2.next {w0 w w' : World} {a : Option Addr} {n c : Nat} {s : Int} {l : List (Int × Int)} {a' : Option Addr} {n' c' : Nat} {s' : Int} {l' : List (Int × Int)} (h : Held2 w0 w a n c s l a' n' c' s' l') (k : Below w.heap.size w w') : Held2 w0 w' a n c s l a' n' c' s' l' :=
  ⟨h.h.next k, h.k.next k⟩
theorem Held2.drew {w0 w : World} {a : Option Addr} {n c : Nat} {s : Int} {l : List (Int × Int)} {a' : Option Addr} {n' c' : Nat} {s' : Int} {l' : List (Int × Int)} (h : Held2 w0 w a n c s l a' n' c' s' l') : Held2 w0 { w with drawn := w.drawn + 1 } a n c s l a' n' c' s' l' :=
  h.next (Below.refl _ w).drew
theorem Held2.start {w : World} {a : Option Addr} {n c : Nat} {s : Int} {l : List (Int × Int)} {a' : Option Addr} {n' c' : Nat} {s' : Int} {l' : List (Int × Int)} (h : Meas w (.agg #[.slice a n c, .int .i64 s]) l s) (h' : Meas w (.agg #[.slice a' n' c', .int .i64 s']) l' s') :
    Held2 w ((w.alloc (.cells #[.slice a n c, .int .i64 s] 24)).alloc (.cells #[.slice a' n' c', .int .i64 s'] 24)) a n c s l a' n' c' s' l' :=
  ⟨(Held.start h).next (boxed _ _), by
    have := Held.begin (w0 := w) (h'.below (boxed w (.cells #[.slice a n c, .int .i64 s] 24))) (boxed _ _)
    simpa using this⟩
structure KH2 (w0 : World) (a : Option Addr) (n c : Nat) (s : Int) (l : List (Int × Int)) (a' : Option Addr) (n' c' : Nat) (s' : Int) (l' : List (Int × Int)) where
  v : World
  h : Held2 w0 v a n c s l a' n' c' s' l'

set_option maxHeartbeats 2000000 in
theorem walk_GeomBytes (v0 : Value) (l : List (Int × Int)) (s : Int) (v1 : Value) (l' : List (Int × Int)) (s' : Int) (w : World) (h : Meas w v0 l s) (h' : Meas w v1 l' s') :
    Calls Try.prog 6 #[v0, v1] w fun e w' => e = .returned (.bool true) ∧ Below w.heap.size w w' := by
  obtain ⟨a, n, c, rfl, hg, s0, s1⟩ := id h
  obtain ⟨a', n', c', rfl, hg', s0', s1'⟩ := id h'
  have hm := hg.1
  have hm' := hg'.1
  unfold maxLen at hm hm'
  have HN := Lib.hid hg.2.1
  have HN' := Lib.hid hg'.2.1
  have K := Lib.hid (Held2.start h h')
  clear h h' hg hg'
  cases hr : rightL l s with
  | false =>
    have HB := Lib.hid hr
    clear hr
    go_enter Try.func6, Try.ntmps6
    go_wp2_with fail
    refine (awake_any _).mono ?_
    rintro e w1 ⟨rfl, b1⟩
    have K1 := Lib.hid (K.out.next b1)
    clear b1 K
    have c0 := K1.out.h.c0
    have c1 := K1.out.h.c1
    go_wp2_with fail
    refine (right_any l s _ _ K1.out.h.m false HB.out).mono ?_
    rintro e w2 ⟨rfl, b2⟩
    have K2 := Lib.hid (K1.out.next b2)
    clear c0 c1 b2 K1
    go_wp2_with fail
    refine (awake_any _).mono ?_
    rintro e w3 ⟨rfl, b3⟩
    go_wp2
    go_ret
    exact ⟨rfl, next K2.out.h.below b3⟩
  | true =>
    have HB := Lib.hid hr
    have HR := Lib.hid (rightM_iff.1 hr)
    clear hr
    have hn4 : n ≤ 4 := by rw [← HN.out]; exact HR.out.few
    go_enter Try.func6, Try.ntmps6
    go_wp2_with fail
    refine (awake_any _).mono ?_
    rintro e w1 ⟨rfl, b1⟩
    have K1 := Lib.hid (K.out.next b1)
    clear b1 K
    have c0 := K1.out.h.c0
    have c1 := K1.out.h.c1
    go_wp2_with fail
    refine (right_any l s _ _ K1.out.h.m true HB.out).mono ?_
    rintro e w2 ⟨rfl, b2⟩
    have K2 := Lib.hid (K1.out.next b2)
    clear c0 c1 b2 K1
    have d0 := K2.out.k.c0
    have d1 := K2.out.k.c1
    cases hr' : rightL l' s' with
    | false =>
      have HB' := Lib.hid hr'
      clear hr'
      go_wp2_with fail
      refine (right_any l' s' _ _ K2.out.k.m false HB'.out).mono ?_
      rintro e w3 ⟨rfl, b3⟩
      have K3 := Lib.hid (K2.out.next b3)
      clear d0 d1 b3 K2
      go_wp2_with fail
      refine (awake_any _).mono ?_
      rintro e w4 ⟨rfl, b4⟩
      go_wp2
      go_ret
      exact ⟨rfl, next K3.out.h.below b4⟩
    | true =>
      have HB' := Lib.hid hr'
      have HR' := Lib.hid (rightM_iff.1 hr')
      clear hr'
      have hn4' : n' ≤ 4 := by rw [← HN'.out]; exact HR'.out.few
      go_wp2_with fail
      refine (right_any l' s' _ _ K2.out.k.m true HB'.out).mono ?_
      rintro e w3 ⟨rfl, b3⟩
      have K3 := Lib.hid (K2.out.next b3)
      clear d0 d1 b3 K2
      have c0 := K3.out.h.c0
      have c1 := K3.out.h.c1
      have d0 := K3.out.k.c0
      have d1 := K3.out.k.c1
      generalize hy : bytesY l s l.length = y
      generalize hy' : bytesY l' s' l'.length = y'
      have hys : y.size = 8 + 8 * n := by rw [← hy, bytesY_size, HN.out]
      have hys' : y'.size ≤ 100 := by rw [← hy', bytesY_size, HN'.out]; omega
      have HE : Hid (∀ b : Bool, AlikeB b l l' s s' → (y.toList == y'.toList) = b) := Lib.hid (by
        intro b hb
        unfold AlikeB at hb
        have hi := bytesY_iff HR.out HR'.out
        rw [hy, hy'] at hi
        cases b with
        | true => rw [hi.2 (hb.1 rfl)]; simp
        | false =>
          rw [beq_eq_false_iff_ne]
          intro e
          have := hb.2 (hi.1 (by rw [ByteArray.toList_eq, ByteArray.toList_eq] at e; exact ByteArray.ext (Array.toList_inj.1 e)))
          cases this)
      have HY := Lib.hid hy
      have HY' := Lib.hid hy'
      clear hy hy'
      have hstart : ∃ b : Bool, Hid (LikeB b l l' s s' 0) ∧ b = (if s = s' then decide (n = n') else false) := by
        refine ⟨_, Lib.hid ?_, rfl⟩
        unfold LikeB likeTo
        rw [HN.out, HN'.out]
        split <;> simp_all
      obtain ⟨b, HLb, hb⟩ := hstart
      have hgoal : ∀ (X : Value), X = .bool b → X = .bool b := fun _ h => h
      clear hgoal
      by_cases hss : s = s'
      · by_cases hnn : n = n'
        · obtain rfl : b = true := by rw [hb]; simp [hss, hnn]
          clear hb
          subst hss hnn
          go_wp2_with fail
          go_loopw [5, 6] (fun t i wr => ∃ (k : Nat) (b : Bool), k ≤ n ∧ i = .int .i64 (k : Int) ∧ t = .bool b ∧ Hid (LikeB b l l' s s k) ∧ Hid (Held2 w wr a n c s l a' n c' s l')) (fun _ i _ => n - (intOf i).toNat)
          case atStart => exact ⟨0, true, Nat.zero_le _, rfl, rfl, HLb, K3⟩
          case round =>
            obtain ⟨k, b, hk, rfl, rfl, HL, K5⟩ := hrel
            clear HLb c0 c1 d0 d1
            have c0 := K5.out.h.c0
            have c1 := K5.out.h.c1
            have d0 := K5.out.k.c0
            have d1 := K5.out.k.c1
            by_cases hlt : k < n
            · cases b with
              | true =>
                have hkl : k < l.length := by rw [HN.out]; exact hlt
                have hkl' : k < l'.length := by rw [HN'.out]; exact hlt
                obtain ⟨p, q, hpq⟩ : ∃ p q, l[k] = (p, q) := ⟨_, _, rfl⟩
                obtain ⟨p', q', hpq'⟩ : ∃ p q, l'[k] = (p, q) := ⟨_, _, rfl⟩
                obtain ⟨g, o, rfl, hlt2, e0, e1⟩ := K5.out.h.at_ hkl hpq
                obtain ⟨g', o', rfl, hlt2', f0, f1⟩ := K5.out.k.at_ hkl' hpq'
                dsimp only at e0 e1 f0 f1
                have HS : Hid ((p = p' ∧ q = q') ↔ likeTo l l' s s (k + 1)) := Lib.hid (by
                  obtain ⟨g1, g2, g3⟩ := HL.out.1 rfl
                  constructor
                  · rintro ⟨rfl, rfl⟩
                    refine ⟨g1, g2, fun j hj => ?_⟩
                    by_cases e : j = k
                    · subst e
                      rw [List.getElem?_eq_getElem hkl, List.getElem?_eq_getElem hkl', hpq, hpq']
                    · exact g3 j (by omega)
                  · rintro ⟨_, _, h3⟩
                    have := h3 k (by omega)
                    rw [List.getElem?_eq_getElem hkl, List.getElem?_eq_getElem hkl', hpq, hpq'] at this
                    simpa using this)
                clear hkl hkl' hpq hpq'
                by_cases hp : p = p'
                · by_cases hq : q = q'
                  · have HS' : Hid (LikeB true l l' s s (k + 1)) := Lib.hid (by have := HS.out.1 ⟨hp, hq⟩; unfold LikeB; simpa using this)
                    subst hp hq
                    go_wp2_with fail
                    go_quiet (fail)
                    go_wp2
                    go_round
                    case rel => exact ⟨k + 1, true, by omega, by go_num, by simp, HS', Lib.hid (K5.out.next (below_drewN (Below.refl _ _) _))⟩
                    case measure => simp [intOf]; omega
                  · have HS' : Hid (LikeB false l l' s s (k + 1)) := Lib.hid (by unfold LikeB; simp; intro h; exact hq (HS.out.2 h).2)
                    have hq' : (q == q') = false := by simp [hq]
                    subst hp
                    go_wp2_with fail
                    go_quiet (fail)
                    go_wp2
                    go_round
                    case rel => exact ⟨k + 1, false, by omega, by go_num, by simp, HS', Lib.hid (K5.out.next (below_drewN (Below.refl _ _) _))⟩
                    case measure => simp [intOf]; omega
                · have HS' : Hid (LikeB false l l' s s (k + 1)) := Lib.hid (by unfold LikeB; simp; intro h; exact hp (HS.out.2 h).1)
                  have hp' : (p == p') = false := by simp [hp]
                  go_wp2_with fail
                  go_quiet (fail)
                  go_wp2
                  go_round
                  case rel => exact ⟨k + 1, false, by omega, by go_num, by simp, HS', Lib.hid (K5.out.next (below_drewN (Below.refl _ _) _))⟩
                  case measure => simp [intOf]; omega
              | false =>
                have hqe : (y.toList == y'.toList) = false := HE.out false ⟨fun h => (by cases h), fun h => HL.out.2 ⟨rfl, (by rw [h.2]), fun j _ => (by rw [h.2])⟩⟩
                go_wp2_with fail
                haveI hne : Nonempty (KH2 w a n c s l a' n c' s l') := ⟨⟨wr, K5.out⟩⟩
                have CG : Hid (∀ z : KH2 w a n c s l a' n c' s l', Calls Try.prog 17 #[.agg #[.slice a n c, .int .i64 s]] z.v fun e w' => e = .returned (.string y) ∧ ∃ y : KH2 w a n c s l a' n c' s l', w' = y.v) :=
                  Lib.hid (fun z => (bytes_some l s _ z.v z.h.h.m HR.out).mono fun e w' ⟨he, hb⟩ => ⟨by rw [← HY.out]; exact he, ⟨w', z.h.next hb⟩, rfl⟩)
                have CH : Hid (∀ z : KH2 w a n c s l a' n c' s l', Calls Try.prog 17 #[.agg #[.slice a' n c', .int .i64 s]] z.v fun e w' => e = .returned (.string y') ∧ ∃ y : KH2 w a n c s l a' n c' s l', w' = y.v) :=
                  Lib.hid (fun z => (bytes_some l' s _ z.v z.h.k.m HR'.out).mono fun e w' ⟨he, hb⟩ => ⟨by rw [← HY'.out]; exact he, ⟨w', z.h.next hb⟩, rfl⟩)
                have k0 := fun z : KH2 w a n c s l a' n c' s l' => z.h.h.c0
                have k1 := fun z : KH2 w a n c s l a' n c' s l' => z.h.h.c1
                have m0 := fun z : KH2 w a n c s l a' n c' s l' => z.h.k.c0
                have m1 := fun z : KH2 w a n c s l a' n c' s l' => z.h.k.c1
                clear c0 c1 d0 d1
                refine wp_region_family (KH2.v (w0 := w) (a := a) (n := n) (c := c) (s := s) (l := l) (a' := a') (n' := n) (c' := c') (s' := s) (l' := l')) (by kernel_rfl) (by kernel_rfl) ⟨⟨_, K5.out.drew⟩, rfl⟩ ?_
                repeat (go_big_quiet_step (first
                  | (go_at_call_of 17 (Value.agg #[Value.slice a n c, Value.int IntKind.i64 s]); exact CG.out _)
                  | (go_at_call_of 17 (Value.agg #[Value.slice a' n c', Value.int IntKind.i64 s]); exact CH.out _)))
                refine wpQuiet_nil ?_
                rintro w7 ⟨⟨w4, K4⟩, rfl⟩
                go_wp2
                go_ret
                exact ⟨by simp, K4.h.below⟩
            · obtain rfl : k = n := by omega
              have hbb : AlikeB b l l' s s := by
                refine Iff.trans HL.out ?_
                constructor
                · intro h
                  rw [← HN.out] at h
                  exact likeTo_all h
                · rintro ⟨_, rfl⟩
                  exact ⟨rfl, rfl, fun _ _ => rfl⟩
              have hqe := HE.out b hbb
              clear hbb
              cases b with
              | true =>
                go_wp2_with fail
                haveI hne : Nonempty (KH2 w a k c s l a' k c' s l') := ⟨⟨wr, K5.out⟩⟩
                have CG : Hid (∀ z : KH2 w a k c s l a' k c' s l', Calls Try.prog 17 #[.agg #[.slice a k c, .int .i64 s]] z.v fun e w' => e = .returned (.string y) ∧ ∃ y : KH2 w a k c s l a' k c' s l', w' = y.v) :=
                  Lib.hid (fun z => (bytes_some l s _ z.v z.h.h.m HR.out).mono fun e w' ⟨he, hb⟩ => ⟨by rw [← HY.out]; exact he, ⟨w', z.h.next hb⟩, rfl⟩)
                have CH : Hid (∀ z : KH2 w a k c s l a' k c' s l', Calls Try.prog 17 #[.agg #[.slice a' k c', .int .i64 s]] z.v fun e w' => e = .returned (.string y') ∧ ∃ y : KH2 w a k c s l a' k c' s l', w' = y.v) :=
                  Lib.hid (fun z => (bytes_some l' s _ z.v z.h.k.m HR'.out).mono fun e w' ⟨he, hb⟩ => ⟨by rw [← HY'.out]; exact he, ⟨w', z.h.next hb⟩, rfl⟩)
                have k0 := fun z : KH2 w a k c s l a' k c' s l' => z.h.h.c0
                have k1 := fun z : KH2 w a k c s l a' k c' s l' => z.h.h.c1
                have m0 := fun z : KH2 w a k c s l a' k c' s l' => z.h.k.c0
                have m1 := fun z : KH2 w a k c s l a' k c' s l' => z.h.k.c1
                clear c0 c1 d0 d1
                refine wp_region_family (KH2.v (w0 := w) (a := a) (n := k) (c := c) (s := s) (l := l) (a' := a') (n' := k) (c' := c') (s' := s) (l' := l')) (by kernel_rfl) (by kernel_rfl) ⟨⟨_, K5.out.drew⟩, rfl⟩ ?_
                repeat (go_big_quiet_step (first
                  | (go_at_call_of 17 (Value.agg #[Value.slice a k c, Value.int IntKind.i64 s]); exact CG.out _)
                  | (go_at_call_of 17 (Value.agg #[Value.slice a' k c', Value.int IntKind.i64 s]); exact CH.out _)))
                refine wpQuiet_nil ?_
                rintro w7 ⟨⟨w4, K4⟩, rfl⟩
                go_wp2
                go_ret
                exact ⟨by simp, K4.h.below⟩
              | false =>
                go_wp2_with fail
                haveI hne : Nonempty (KH2 w a k c s l a' k c' s l') := ⟨⟨wr, K5.out⟩⟩
                have CG : Hid (∀ z : KH2 w a k c s l a' k c' s l', Calls Try.prog 17 #[.agg #[.slice a k c, .int .i64 s]] z.v fun e w' => e = .returned (.string y) ∧ ∃ y : KH2 w a k c s l a' k c' s l', w' = y.v) :=
                  Lib.hid (fun z => (bytes_some l s _ z.v z.h.h.m HR.out).mono fun e w' ⟨he, hb⟩ => ⟨by rw [← HY.out]; exact he, ⟨w', z.h.next hb⟩, rfl⟩)
                have CH : Hid (∀ z : KH2 w a k c s l a' k c' s l', Calls Try.prog 17 #[.agg #[.slice a' k c', .int .i64 s]] z.v fun e w' => e = .returned (.string y') ∧ ∃ y : KH2 w a k c s l a' k c' s l', w' = y.v) :=
                  Lib.hid (fun z => (bytes_some l' s _ z.v z.h.k.m HR'.out).mono fun e w' ⟨he, hb⟩ => ⟨by rw [← HY'.out]; exact he, ⟨w', z.h.next hb⟩, rfl⟩)
                have k0 := fun z : KH2 w a k c s l a' k c' s l' => z.h.h.c0
                have k1 := fun z : KH2 w a k c s l a' k c' s l' => z.h.h.c1
                have m0 := fun z : KH2 w a k c s l a' k c' s l' => z.h.k.c0
                have m1 := fun z : KH2 w a k c s l a' k c' s l' => z.h.k.c1
                clear c0 c1 d0 d1
                refine wp_region_family (KH2.v (w0 := w) (a := a) (n := k) (c := c) (s := s) (l := l) (a' := a') (n' := k) (c' := c') (s' := s) (l' := l')) (by kernel_rfl) (by kernel_rfl) ⟨⟨_, K5.out.drew⟩, rfl⟩ ?_
                repeat (go_big_quiet_step (first
                  | (go_at_call_of 17 (Value.agg #[Value.slice a k c, Value.int IntKind.i64 s]); exact CG.out _)
                  | (go_at_call_of 17 (Value.agg #[Value.slice a' k c', Value.int IntKind.i64 s]); exact CH.out _)))
                refine wpQuiet_nil ?_
                rintro w7 ⟨⟨w4, K4⟩, rfl⟩
                go_wp2
                go_ret
                exact ⟨by simp, K4.h.below⟩
        · obtain rfl : b = false := by rw [hb]; simp [hss, hnn]
          clear hb
          have hnn' : ((n : Int) == (n' : Int)) = false := by simp; omega
          subst hss
          have hqe : (y.toList == y'.toList) = false := HE.out false ⟨fun h => (by cases h), fun h => HLb.out.2 ⟨h.1, (by rw [h.2]), fun j hj => absurd hj (Nat.not_lt_zero _)⟩⟩
          have hn0 : 0 < n := by rw [← HN.out]; exact HR.out.pos
          go_wp2_with fail
          refine wp_loop_rounds 1 ?_
          rw [rounds_succ]
          go_wp2_with fail
          haveI hne : Nonempty (KH2 w a n c s l a' n' c' s l') := ⟨⟨w3, K3.out⟩⟩
          have CG : Hid (∀ z : KH2 w a n c s l a' n' c' s l', Calls Try.prog 17 #[.agg #[.slice a n c, .int .i64 s]] z.v fun e w' => e = .returned (.string y) ∧ ∃ y : KH2 w a n c s l a' n' c' s l', w' = y.v) :=
            Lib.hid (fun z => (bytes_some l s _ z.v z.h.h.m HR.out).mono fun e w' ⟨he, hb⟩ => ⟨by rw [← HY.out]; exact he, ⟨w', z.h.next hb⟩, rfl⟩)
          have CH : Hid (∀ z : KH2 w a n c s l a' n' c' s l', Calls Try.prog 17 #[.agg #[.slice a' n' c', .int .i64 s]] z.v fun e w' => e = .returned (.string y') ∧ ∃ y : KH2 w a n c s l a' n' c' s l', w' = y.v) :=
            Lib.hid (fun z => (bytes_some l' s _ z.v z.h.k.m HR'.out).mono fun e w' ⟨he, hb⟩ => ⟨by rw [← HY'.out]; exact he, ⟨w', z.h.next hb⟩, rfl⟩)
          have k0 := fun z : KH2 w a n c s l a' n' c' s l' => z.h.h.c0
          have k1 := fun z : KH2 w a n c s l a' n' c' s l' => z.h.h.c1
          have m0 := fun z : KH2 w a n c s l a' n' c' s l' => z.h.k.c0
          have m1 := fun z : KH2 w a n c s l a' n' c' s l' => z.h.k.c1
          clear c0 c1 d0 d1
          refine wp_region_family (KH2.v (w0 := w) (a := a) (n := n) (c := c) (s := s) (l := l) (a' := a') (n' := n') (c' := c') (s' := s) (l' := l')) (by kernel_rfl) (by kernel_rfl) ⟨⟨_, K3.out.drew⟩, rfl⟩ ?_
          repeat (go_big_quiet_step (first
            | (go_at_call_of 17 (Value.agg #[Value.slice a n c, Value.int IntKind.i64 s]); exact CG.out _)
            | (go_at_call_of 17 (Value.agg #[Value.slice a' n' c', Value.int IntKind.i64 s]); exact CH.out _)))
          refine wpQuiet_nil ?_
          rintro w7 ⟨⟨w4, K4⟩, rfl⟩
          go_wp2
          go_ret
          exact ⟨by simp, K4.h.below⟩
      · obtain rfl : b = false := by rw [hb]; simp [hss]
        clear hb
        have hss' : (s == s') = false := by simp [hss]
        have hqe : (y.toList == y'.toList) = false := HE.out false ⟨fun h => (by cases h), fun h => HLb.out.2 ⟨h.1, (by rw [h.2]), fun j hj => absurd hj (Nat.not_lt_zero _)⟩⟩
        have hn0 : 0 < n := by rw [← HN.out]; exact HR.out.pos
        go_wp2_with fail
        refine wp_loop_rounds 1 ?_
        rw [rounds_succ]
        go_wp2_with fail
        haveI hne : Nonempty (KH2 w a n c s l a' n' c' s' l') := ⟨⟨w3, K3.out⟩⟩
        have CG : Hid (∀ z : KH2 w a n c s l a' n' c' s' l', Calls Try.prog 17 #[.agg #[.slice a n c, .int .i64 s]] z.v fun e w' => e = .returned (.string y) ∧ ∃ y : KH2 w a n c s l a' n' c' s' l', w' = y.v) :=
          Lib.hid (fun z => (bytes_some l s _ z.v z.h.h.m HR.out).mono fun e w' ⟨he, hb⟩ => ⟨by rw [← HY.out]; exact he, ⟨w', z.h.next hb⟩, rfl⟩)
        have CH : Hid (∀ z : KH2 w a n c s l a' n' c' s' l', Calls Try.prog 17 #[.agg #[.slice a' n' c', .int .i64 s']] z.v fun e w' => e = .returned (.string y') ∧ ∃ y : KH2 w a n c s l a' n' c' s' l', w' = y.v) :=
          Lib.hid (fun z => (bytes_some l' s' _ z.v z.h.k.m HR'.out).mono fun e w' ⟨he, hb⟩ => ⟨by rw [← HY'.out]; exact he, ⟨w', z.h.next hb⟩, rfl⟩)
        have k0 := fun z : KH2 w a n c s l a' n' c' s' l' => z.h.h.c0
        have k1 := fun z : KH2 w a n c s l a' n' c' s' l' => z.h.h.c1
        have m0 := fun z : KH2 w a n c s l a' n' c' s' l' => z.h.k.c0
        have m1 := fun z : KH2 w a n c s l a' n' c' s' l' => z.h.k.c1
        clear c0 c1 d0 d1
        refine wp_region_family (KH2.v (w0 := w) (a := a) (n := n) (c := c) (s := s) (l := l) (a' := a') (n' := n') (c' := c') (s' := s') (l' := l')) (by kernel_rfl) (by kernel_rfl) ⟨⟨_, K3.out.drew⟩, rfl⟩ ?_
        repeat (go_big_quiet_step (first
          | (go_at_call_of 17 (Value.agg #[Value.slice a n c, Value.int IntKind.i64 s]); exact CG.out _)
          | (go_at_call_of 17 (Value.agg #[Value.slice a' n' c', Value.int IntKind.i64 s']); exact CH.out _)))
        refine wpQuiet_nil ?_
        rintro w7 ⟨⟨w4, K4⟩, rfl⟩
        go_wp2
        go_ret
        exact ⟨by simp, K4.h.below⟩
end Go.Proofs.Ytpbhbpopebjgiaa
