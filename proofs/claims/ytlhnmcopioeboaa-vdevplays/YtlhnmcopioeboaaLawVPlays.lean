/-
  The walk of polderlaw08.VdevPlays: it returns true, and writes nothing that was there.
-/
import Derived.Test.YtlhnmcopioeboaaVt
namespace Go.Proofs.Ytlhnmcopioeboaa
set_option maxRecDepth 100000
open Go.RowKit Go.Maps M

theorem open_bools {H : Type} {enc : TypeId × Value → H} {W : World} {a : Option Addr} {len cap : Nat} {d : DataW H} {ps : List MemPlace}
    (h : DataW.Trod enc Try.prog W 0 (fun _ => true) true 30 (.slice a len cap) d ps) : ∃ f : Nat → Bool, Bl W a len f := by
  obtain ⟨fuel, hf⟩ := h
  have hC : Try.prog.cellsOf 4 = 1 := by kernel_rfl
  obtain ⟨hl, hi⟩ := slice_elems (P := Try.prog) Try.underlying30 (by rw [hC]; omega) hf
  have hone : ∀ i, i < len → ∃ (b : Bool) (g o : Nat), a = some ⟨g, o, none⟩ ∧ g < W.heap.size ∧ W.cell? ⟨g, o + i, none⟩ = some (.bool b) := fun i hlt => by
    obtain ⟨g, o, cs, n, y, rfl, hb, hlen, hcell, ht⟩ := hi i hlt
    rw [hC] at hlen hcell
    match cs, hlen with
    | [c0], _ =>
      have h0 := hcell 0 (by omega)
      rw [Nat.mul_one, Nat.add_zero] at h0
      obtain ⟨b, hb0, _⟩ := DataW.trod_bool Try.underlying4 ht
      simp at hb0
      subst hb0
      exact ⟨b, g, o, rfl, hb, h0⟩
  refine ⟨fun i => if h : i < len then Classical.choose (hone i h) else false, hl, fun i hlt => ?_⟩
  have hx := Classical.choose_spec (hone i hlt)
  simp only [dif_pos hlt]
  obtain ⟨g, o, h1, h2, h3⟩ := hx
  exact ⟨g, o, h1, h2, h3⟩
/-- Too many are lost, just if Write says so. -/
def lostB (x : Int × Int) (n : Nat) : Bool := if x.1 = 0 then decide ((n : Int) = x.2) else decide (1 < n)
theorem errN_lost {x : Int × Int} (h : okG x = true) {n : Nat} (hn : x.1 = 0 → (n : Int) ≤ x.2) : errN x n = if lostB x n then 6 else 0 := by
  unfold errN spareN lostB
  obtain ⟨k, u⟩ := x
  have := okG_wide h
  by_cases e : k = 0
  · simp only [e, if_true]
    have h2 := hn e
    simp only at h2
    by_cases e2 : (n : Int) = u
    · rw [if_pos (by omega)]; simp [e2]
    · rw [if_neg (by omega)]; simp [e2]
  · simp only [e, if_false]
    by_cases e2 : 1 < n
    · rw [if_pos (by omega)]; simp [e2]
    · rw [if_neg (by omega)]; simp [e2]
theorem lackN_congr (L : List C) {hr hr' : Nat → Bool} : ∀ n, (∀ i, i < n → hr i = hr' i) → lackN L hr n = lackN L hr' n := by
  intro n
  induction n with
  | zero => intro _; rfl
  | succ n ih =>
    intro h
    rw [lackN, lackN, h n (by omega), ih fun i hi => h i (by omega)]
theorem goneN_congr {hr hr' : Nat → Bool} : ∀ n, (∀ i, i < n → hr i = hr' i) → goneN hr n = goneN hr' n := by
  intro n
  induction n with
  | zero => intro _; rfl
  | succ n ih =>
    intro h
    rw [goneN, goneN, h n (by omega), ih fun i hi => h i (by omega)]
theorem lackN_few (L : List C) (hr : Nat → Bool) (f u : Nat) (hL : ∀ j, j < L.length → f ≤ devN L j ∧ devN L j < f + u) : ∀ k, lackN L hr k ≤ k - f ∧ lackN L hr k ≤ u := by
  intro k
  induction k with
  | zero => exact ⟨Nat.zero_le _, Nat.zero_le _⟩
  | succ k ih =>
    rw [lackN]
    cases h : (hasD L k L.length && !hr k) with
    | false => rw [if_neg (by simp)]; omega
    | true =>
      rw [if_pos rfl]
      rw [Bool.and_eq_true, hasD_iff] at h
      obtain ⟨⟨j, hj, e⟩, _⟩ := h
      have := hL j hj
      omega
theorem blAt {B : Nat} {W : World} {g n c : Nat} {L : List Bool} (h : OwnBl B W (.slice (some ⟨g, 0, none⟩) n c) L) (i : Nat) (hi : i < L.length) : W.cell? ⟨g, i, none⟩ = some (.bool (L.getD i false)) ∧ g < W.heap.size := by
  have hcells := fun g hg => World.ownsRow.cells (g := g) h hg
  rcases h.2 with ⟨e, _⟩ | ⟨g', cap, cur, e, hB, hg, _⟩
  · cases e
  · simp only [Value.slice.injEq, Option.some.injEq, Addr.mk.injEq, and_true] at e
    obtain ⟨rfl, _⟩ := e
    have := hcells g rfl i (.bool L[i]) (by rw [List.getElem?_map, List.getElem?_eq_getElem hi]; rfl)
    rw [Go.WideShapes.add_plain, Nat.zero_add] at this
    exact ⟨by rw [this, List.getD_eq_getElem?_getD, List.getElem?_eq_getElem hi]; rfl, (Array.getElem?_eq_some_iff.1 hg).1⟩
/-- What Write answered, beside the document's own answer. -/
theorem Wrote.says {l : List (Int × Int)} {sc k t : Int} {s : ByteArray} {ds ds' : Nat → Dv} {aw : Nat → Bool} {n : Nat} {er : Int} (h : Wrote l sc k t s ds aw ds' n er) : hereB ds' aw = hereB ds aw := by
  rcases h with ⟨_, rfl, _⟩ | ⟨k', t', z', _, _, _, _, rfl, _⟩
  · rfl
  · rw [wrTo_here]

set_option maxHeartbeats 8000000 in
theorem walk_VdevPlays (v : Value) (l : List (Int × Int)) (sc k t : Int) (s : ByteArray) (aA : Option Addr) (nA cA : Nat) (aL : Option Addr) (nL cL : Nat) (dI : Int) (w : World) (h : Meas w v l sc) (hk : I64 k) (ht : I64 t) (hs : s.size ≤ maxLen) (hA : ∃ f, Bl w aA nA f) (hL : ∃ f, Bl w aL nL f) (hd : (Lit.int .i64 dI).wf = true) :
    Calls Try.prog 4 #[v, .agg #[.int .i64 k, .int .i64 t], .string s, .slice aA nA cA, .slice aL nL cL, .int .i64 dI] w fun e w' => e = .returned (.bool true) ∧ Below w.heap.size w w' := by
  unfold maxLen at hs
  obtain ⟨fA, hA⟩ := hA
  obtain ⟨fL, hL⟩ := hL
  have K1 := h
  obtain ⟨a, gn, gc, rfl, hg⟩ := id h
  have hlen : l.length = gn := hg.1.2.1
  have hgm := hg.1.1
  unfold maxLen at hgm
  replace K1 := Lib.hid (HeldP.start k t K1)
  have HI := Lib.hid hk
  have HT := Lib.hid ht
  have HAA := Lib.hid hA
  have HLL := Lib.hid hL
  obtain ⟨di0, di1⟩ := bounds_i64 hd
  clear h hg hk ht hA hL hd
  go_enter Try.func4, Try.ntmps4
  go_wp2_with fail
  refine (awake8 _).mono ?_
  rintro e w1 ⟨rfl, c1⟩
  have K2 := Lib.hid (K1.out.next c1)
  clear c1 K1
  by_cases hs1 : s.size ≤ 1000
  · have d1 : decide (1000 < (s.size : Int)) = false := by rw [decide_eq_false_iff_not]; omega
    have k0 := K2.out.h.c0
    have k1 := K2.out.h.c1
    have HS1 := Lib.hid hs1
    by_cases hr : 100 < l.length ∨ 200 < sc ∨ rightL l sc = false
    · have HDV := Lib.hid (devices_no l sc _ w1 K2.out.h.m hr (.slice aA nA cA) (.slice aL nL cL))
      unfold noDevs at HDV
      go_wp2_with fail
      refine HDV.out.mono ?_
      rintro e w2 ⟨rfl, c2⟩
      have hb3 := boxed w2 (.cells #[.slice none 0 0, .int .i64 0, .slice none 0 0, .slice none 0 0] 32)
      have K3 := Lib.hid (K2.out.next (next c2 hb3))
      clear k0 k1
      have k0 := K3.out.h.c0
      have k1 := K3.out.h.c1
      by_cases hb1 : 100 < gn
      · have e1 : decide (100 < (gn : Int)) = true := by rw [decide_eq_true_iff]; omega
        go_wp2
        go_ret
        exact ⟨rfl, K3.out.h.below⟩
      · have e1 : decide (100 < (gn : Int)) = false := by rw [decide_eq_false_iff_not]; omega
        by_cases hb2 : 200 < sc
        · have e2 : decide (200 < sc) = true := by rw [decide_eq_true_iff]; omega
          go_wp2
          go_ret
          exact ⟨rfl, K3.out.h.below⟩
        · have e2 : decide (200 < sc) = false := by rw [decide_eq_false_iff_not]; omega
          have hrf : rightL l sc = false := by
            rcases hr with h | h | h
            · omega
            · omega
            · exact h
          have HRR := Lib.hid (refRight_any l sc _ _ K3.out.h.m false hrf)
          have hnb : New w2.heap.size (w2.alloc (.cells #[.slice none 0 0, .int .i64 0, .slice none 0 0, .slice none 0 0] 32)) (fun W => W.heap[w2.heap.size]? = some (.cells #[.slice none 0 0, .int .i64 0, .slice none 0 0, .slice none 0 0] 32)) := New.block _ _ _ (Nat.le_refl _)
          have HNB := Lib.hid hnb
          clear hr hrf hnb
          go_wp2_with fail
          refine HRR.out.mono ?_
          rintro e w4 ⟨rfl, c4⟩
          have hb4 := (HNB.out.next c4).out
          have r0 : w4.cell? ⟨w2.heap.size, 0, none⟩ = some (.slice none 0 0) := by simp [World.cell?, hb4]
          have r1 : w4.cell? ⟨w2.heap.size, 1, none⟩ = some (.int .i64 0) := by simp [World.cell?, hb4]
          have r2 : w4.cell? ⟨w2.heap.size, 2, none⟩ = some (.slice none 0 0) := by simp [World.cell?, hb4]
          have r3 : w4.cell? ⟨w2.heap.size, 3, none⟩ = some (.slice none 0 0) := by simp [World.cell?, hb4]
          have HR8 := Lib.hid (right8_no w4)
          unfold noDevs at HR8
          clear hb4
          go_wp2_with fail
          refine HR8.out.mono ?_
          rintro e w5 ⟨rfl, c5⟩
          have hb5 := ((HNB.out.next c4).next c5).out
          have r4 : w5.cell? ⟨w2.heap.size, 0, none⟩ = some (.slice none 0 0) := by simp [World.cell?, hb5]
          have r5 : w5.cell? ⟨w2.heap.size, 1, none⟩ = some (.int .i64 0) := by simp [World.cell?, hb5]
          have r6 : w5.cell? ⟨w2.heap.size, 2, none⟩ = some (.slice none 0 0) := by simp [World.cell?, hb5]
          have r7 : w5.cell? ⟨w2.heap.size, 3, none⟩ = some (.slice none 0 0) := by simp [World.cell?, hb5]
          have HH8 := Lib.hid (here8_no dI w5)
          unfold noDevs at HH8
          have C5 := Lib.hid (next (next K3.out.h.below c4) c5)
          clear hb5 c4 c5 r0 r1 r2 r3
          go_wp2_with fail
          refine HH8.out.mono ?_
          rintro e w6 ⟨rfl, c6⟩
          have C6 := Lib.hid (next C5.out c6)
          go_wp2
          go_ret
          exact ⟨rfl, C6.out⟩
    · have hr1 : RightM l sc := rightM_iff.1 (by cases e : rightL l sc with | true => rfl | false => exact absurd (.inr (.inr e)) hr)
      have hr2 : l.length ≤ 100 := by omega
      have hr3 : sc ≤ 200 := by omega
      have HDV := Lib.hid (devices_ok l sc _ w1 K2.out.h.m hr2 hr3 hr1 aA aL nA cA nL cL fA fL (HAA.out.below K2.out.h.below) (HLL.out.below K2.out.h.below))
      clear hr hr1 hr2 hr3
      go_wp2_with fail
      refine HDV.out.mono ?_
      rintro e w2 ⟨x, hv, rfl, rfl, h2, c2⟩
      have hbx := boxed w2 (.cells #[.slice x.ga x.gn x.gc, .int .i64 x.sc, .slice (some ⟨x.lb, 0, none⟩) x.n x.n, .slice (some ⟨x.ab, 0, none⟩) x.n x.n] 32)
      have HS3 := Lib.hid (h2.add hbx (BoxX.new w2 x _ (Nat.le_refl _) 32))
      have C3 := Lib.hid (next c2 hbx)
      obtain ⟨hn1, h32⟩ := h2.right.1.devs h2.right.2
      have hown := h2.out
      obtain ⟨gH, cH, rfl⟩ : ∃ g c, hv = .slice (some ⟨g, 0, none⟩) x.n c := by
        rcases hown.2 with ⟨_, e⟩ | ⟨g, cap, _, e, _⟩
        · rw [hereTo_len] at e; omega
        · rw [hereTo_len] at e; exact ⟨g, cap, e⟩
      obtain ⟨hB, hhB⟩ : ∃ hB : Nat → Bool, ∀ i, hB i = (!saysB nA fA i && !saysB nL fL i) := ⟨_, fun _ => rfl⟩
      have HBC : Hid (∀ W, OwnBl w1.heap.size W (.slice (some ⟨gH, 0, none⟩) x.n cH) (hereTo nA nL fA fL x.n) → ∀ i, i < x.n → W.cell? ⟨gH, i, none⟩ = some (.bool (hB i)) ∧ gH < W.heap.size) := Lib.hid fun W ho i hi => by
        have := blAt ho i (by rw [hereTo_len]; exact hi)
        rw [hhB]
        unfold hereTo at this
        rw [List.getD_eq_getElem?_getD, List.getElem?_map, List.getElem?_range hi] at this
        exact this
      have HHB : Hid (∀ i, i < x.n → hereB (dsTo nL fL (zeroDv x.sc) x.n) (awTo nA fA x.n) i = hB i) := Lib.hid fun i hi => by rw [hhB]; exact hereB_to nA nL fA fL rfl hi
      have K3 := Lib.hid (K2.out.next C3.out)
      have f0 := HS3.out.out.2.c0
      have f1 := HS3.out.out.2.c1
      have f2 := HS3.out.out.2.c2
      have f3 := HS3.out.out.2.c3
      have p0 := K3.out.p0
      have p1 := K3.out.p1
      have HW := Lib.hid (write8_any HS3.out k t HI.out HT.out s HS1.out (by omega))
      unfold Px.val at HW ⊢
      clear h2 c2 hbx k0 k1 hown hhB
      go_wp2_with fail
      refine HW.out.mono ?_
      rintro e w4 ⟨n4, er4, ds4, rfl, hw4, h4, c4⟩
      have HW4 := Lib.hid hw4
      have HS4 := Lib.hid h4
      have C4 := Lib.hid (C3.out.trans c4)
      have HH4 := Lib.hid hw4.says
      clear hw4 h4 c4 f0 f1 f2 f3 p0 p1 HW
      have f0 := HS4.out.out.2.c0
      have f1 := HS4.out.out.2.c1
      have f2 := HS4.out.out.2.c2
      have f3 := HS4.out.out.2.c3
      have HFL := Lib.hid (flush8_any HS4.out (by omega))
      obtain ⟨N, hN⟩ : ∃ N, goneN hB x.n = N := ⟨_, rfl⟩
      rw [HH4.out, goneN_congr x.n HHB.out, hN] at HFL
      have hNle := goneN_le hB x.n
      rw [hN] at hNle
      have HNN := Lib.hid hN
      unfold Px.val at HFL
      clear hN
      go_wp2_with fail
      refine HFL.out.mono ?_
      rintro e w5 ⟨rfl, h5, c5⟩
      have HS5 := Lib.hid h5
      have C5 := Lib.hid (C4.out.trans c5)
      clear h5 c5 f0 f1 f2 f3 HFL
      have f0 := HS5.out.out.2.c0
      have f1 := HS5.out.out.2.c1
      have f2 := HS5.out.out.2.c2
      have f3 := HS5.out.out.2.c3
      go_upto_region 8 with (fail)
      go_cut [100] (fun s100 wc => s100 = .bool false ∧ St w1.heap.size wc x l (flTo ds4 (awTo nA fA x.n) x.n) (awTo nA fA x.n) (0 + 32) (fun w' => OwnBl w1.heap.size w' (.slice (some ⟨gH, 0, none⟩) x.n cH) (hereTo nA nL fA fL x.n) ∧ BoxX x w2.heap.size w') ∧ Below w1.heap.size w1 wc)
      case first =>
        have HR8 := Lib.hid (right8_any HS5.out)
        unfold Px.val at HR8
        go_wp2_with fail
        refine HR8.out.mono ?_
        rintro e w6 ⟨rfl, c6⟩
        have HS6 := Lib.hid (HS5.out.below c6)
        have C6 := Lib.hid (C5.out.trans (c6.mono C5.out.size))
        clear c6 f0 f1 f2 f3
        have f0 := HS6.out.out.2.c0
        have f1 := HS6.out.out.2.c1
        have f2 := HS6.out.out.2.c2
        have f3 := HS6.out.out.2.c3
        have HHE := Lib.hid (here8_any HS6.out dI)
        unfold Px.val at HHE
        obtain ⟨hD, hhD⟩ : ∃ hD, hereD (flTo ds4 (awTo nA fA x.n) x.n) (awTo nA fA x.n) x.n dI = hD := ⟨_, rfl⟩
        rw [hhD] at HHE
        have HHD : Hid ((dI < 0 → hD = false) ∧ ((x.n : Int) ≤ dI → hD = false) ∧ ∀ i : Nat, dI = (i : Int) → i < x.n → hD = hB i) := Lib.hid (by
          rw [← hhD]
          unfold hereD
          refine ⟨fun e => ?_, fun e => ?_, fun i e hi => ?_⟩
          · have : decide (0 ≤ dI) = false := by rw [decide_eq_false_iff_not]; omega
            rw [this]; rfl
          · have : decide (dI < (x.n : Int)) = false := by rw [decide_eq_false_iff_not]; omega
            rw [this, Bool.and_false]; rfl
          · subst e
            have e1 : decide ((0 : Int) ≤ (i : Int)) = true := by simp
            have e2 : decide ((i : Int) < (x.n : Int)) = true := by simp; omega
            rw [e1, e2, Int.toNat_natCast, flTo_here, HH4.out, HHB.out i hi]; rfl)
        clear hhD
        go_wp2_with fail
        refine HHE.out.mono ?_
        rintro e w7 ⟨rfl, c7⟩
        have HS7 := Lib.hid (HS6.out.below c7)
        have C7 := Lib.hid (C6.out.trans (c7.mono C6.out.size))
        have K7 := Lib.hid (K2.out.next C7.out)
        have HC7 := Lib.hid (HBC.out w7 HS7.out.out.1)
        clear c7 f0 f1 f2 f3 HHE HR8
        by_cases hd0 : dI < 0
        · have e1 : decide ((0 : Int) ≤ dI) = false := by rw [decide_eq_false_iff_not]; omega
          obtain rfl := HHD.out.1 hd0
          go_wp2_with fail
          go_meet
          exact ⟨by first | rfl | simp, HS7.out, C7.out⟩
        · have e1 : decide ((0 : Int) ≤ dI) = true := by rw [decide_eq_true_iff]; omega
          by_cases hd1 : dI < (x.n : Int)
          · have e2 : decide (dI < (x.n : Int)) = true := by rw [decide_eq_true_iff]; omega
            obtain ⟨i, rfl⟩ := Int.eq_ofNat_of_zero_le (show 0 ≤ dI by omega)
            have hin : i < x.n := by omega
            obtain rfl := HHD.out.2.2 i rfl hin
            have hci := (HC7.out i hin).1
            have q5 : (i : Int) < (x.n : Int) := by omega
            clear hd0 hd1
            cases hBi : hB i with
            | true =>
              rw [hBi] at hci
              go_wp2_with fail
              go_meet
              exact ⟨by first | rfl | simp, HS7.out, C7.out⟩
            | false =>
              rw [hBi] at hci
              go_wp2_with fail
              go_meet
              exact ⟨by first | rfl | simp, HS7.out, C7.out⟩
          · have e2 : decide (dI < (x.n : Int)) = false := by rw [decide_eq_false_iff_not]; omega
            obtain rfl := HHD.out.2.1 (by omega)
            go_wp2_with fail
            go_meet
            exact ⟨by first | rfl | simp, HS7.out, C7.out⟩
      case rest =>
        obtain ⟨rfl, h7, c7⟩ := hcut
        rename World => w7
        have HS7 := Lib.hid h7
        have C7 := Lib.hid c7
        have K7 := Lib.hid (K2.out.next C7.out)
        have HC7 := Lib.hid (HBC.out w7 HS7.out.out.1)
        clear h7 c7 f0 f1 f2 f3
        go_wp2_with fail
        go_loopw [20, 21] (fun i20 i21 wr => ∃ j : Nat, j ≤ x.n ∧ i21 = .int .i64 j ∧ i20 = .int .i64 (goneN hB j : Int) ∧ wr = w7) (fun _ i _ => x.n - (intOf i).toNat)
        case atStart => exact ⟨0, Nat.zero_le _, rfl, rfl, rfl⟩
        case round =>
          obtain ⟨j, hj, rfl, rfl, hwr⟩ := hrel
          have hwr' := hwr.symm
          clear hwr
          subst hwr'
          have hgl := goneN_le hB j
          by_cases hlt : j < x.n
          · have hci := (HC7.out j hlt).1
            have HG1 : Hid (goneN hB (j + 1) = if hB j then goneN hB j else goneN hB j + 1) := Lib.hid rfl
            have q5 : (j : Int) < (x.n : Int) := by omega
            generalize goneN hB j = T at *
            cases hBj : hB j with
            | true =>
              rw [hBj] at hci
              rw [hBj, if_pos rfl] at HG1
              clear hBj
              go_wp2
              go_roundw
              case rel => exact ⟨j + 1, by omega, by go_num, by rw [HG1.out], trivial⟩
              case measure => simp [intOf]; omega
            | false =>
              rw [hBj] at hci
              rw [hBj, if_neg (by simp)] at HG1
              clear hBj
              go_wp2
              go_roundw
              case rel => exact ⟨j + 1, by omega, by go_num, by rw [HG1.out]; go_num, trivial⟩
              case measure => simp [intOf]; omega
          · obtain rfl : j = x.n := by omega
            rw [HNN.out]
            obtain ⟨eF, heF⟩ : ∃ eF, errF N x.n = eF := ⟨_, rfl⟩
            rw [heF]
            have HEF := Lib.hid heF
            clear heF
            go_upto_region 16 with (fail)
            go_cut [133] (fun s133 wd => s133 = .bool false ∧ wd = w7)
            case first =>
              have e0 : ((N : Int) == (N : Int)) = true := by simp
              have e1 : ((N : Int) != (N : Int)) = false := by simp
              by_cases hNn : N = x.n
              · have e2 : eF = 6 := by rw [← HEF.out]; unfold errF; rw [if_pos hNn]
                have e3 : ((N : Int) == (x.n : Int)) = true := by rw [beq_iff_eq]; omega
                have e4 : (eF == 6) = true := by rw [e2]; rfl
                have e5 : (eF != 0) = true := by rw [e2]; rfl
                have e6 : (eF != 6) = false := by rw [e2]; rfl
                have e7 : (eF == 0) = false := by rw [e2]; rfl
                clear e2
                go_wp2_with fail
                go_meet
                exact ⟨by first | rfl | simp, rfl⟩
              · have e2 : eF = 0 := by rw [← HEF.out]; unfold errF; rw [if_neg hNn]
                have e3 : ((N : Int) == (x.n : Int)) = false := by rw [beq_eq_false_iff_ne]; omega
                have e4 : (eF == 6) = false := by rw [e2]; rfl
                have e5 : (eF != 0) = false := by rw [e2]; rfl
                have e6 : (eF != 6) = true := by rw [e2]; rfl
                have e7 : (eF == 0) = true := by rw [e2]; rfl
                clear e2
                go_wp2_with fail
                go_meet
                exact ⟨by first | rfl | simp, rfl⟩
            case rest =>
              obtain ⟨rfl, hwd⟩ := hcut
              have hwd' := hwd.symm
              clear hwd
              subst hwd'
              have k0 := K7.out.h.c0
              have k1 := K7.out.h.c1
              have p0 := K7.out.p0
              have p1 := K7.out.p1
              have HTX := Lib.hid (refText_any s w7 HS1.out)
              have HTM := Lib.hid (text_may l x.sc k t s.size)
              obtain ⟨z, hz⟩ : ∃ z, s.size / 64 = z := ⟨_, rfl⟩
              rw [hz] at HTM
              have q4 : Int.tdiv (s.size : Int) 64 = (z : Int) := by rw [Int.tdiv_eq_ediv_of_nonneg (by omega)]; omega
              have hz1000 : z ≤ 1000 := by omega
              have HFF := Lib.hid K7.out.h.below
              rcases HW4.out with ⟨hno, _, rfl, rfl⟩ | ⟨k', t', z', rfl, rfl, hsz, hBl, hds, rfl, rfl⟩
              · rw [hno] at HTM
                cases htb : textB s.size with
                | false =>
                  rw [htb] at HTX
                  clear hno htb
                  go_wp2_with fail
                  refine HTX.out.mono ?_
                  rintro e w8 ⟨rfl, rfl⟩
                  go_wp2
                  go_ret
                  exact ⟨rfl, HFF.out⟩
                | true =>
                  rw [htb] at HTX
                  rw [htb, Bool.true_and] at HTM
                  have HMA := Lib.hid (may_any l x.sc _ _ K7.out.h.m k t (z : Int) HI.out HT.out ⟨by omega, by omega⟩ false HTM.out)
                  clear hno htb
                  go_wp2_with fail
                  refine HTX.out.mono ?_
                  rintro e w8 ⟨rfl, rfl⟩
                  go_wp2_with fail
                  refine HMA.out.mono ?_
                  rintro e w9 ⟨rfl, c9⟩
                  have HF9 := Lib.hid (next HFF.out c9)
                  go_wp2
                  go_ret
                  exact ⟨rfl, HF9.out⟩
              · obtain rfl : z = z' := by omega
                rw [mayT_iff.2 ⟨k', t', z, rfl, rfl, hsz, hBl⟩, Bool.and_eq_true] at HTM
                obtain ⟨htb, hmb⟩ := HTM.out
                rw [htb] at HTX
                have HMA := Lib.hid (may_any l x.sc _ _ K7.out.h.m k' t' (z : Int) HI.out HT.out ⟨by omega, by omega⟩ true hmb)
                have hpt := hBl.puts hsz HS7.out.right.2
                have HFN : Hid (failN (dsTo nL fL (zeroDv x.sc) x.n) (awTo nA fA x.n) (colsOf l k' t' z) = lackN (colsOf l k' t' z) hB x.n) := Lib.hid (by
                  unfold failN
                  rw [faTo_lack _ _ x.n fun j hj => (hpt.dev j hj).2]
                  exact lackN_congr _ _ HHB.out)
                obtain ⟨F, hF⟩ : ∃ F, lackN (colsOf l k' t' z) hB x.n = F := ⟨_, rfl⟩
                rw [hF] at HFN
                have hok := hBl.right.all k' hBl.hk
                have HEL : Hid (errN (l[k']'hBl.hk) F = if lostB (l[k']'hBl.hk) F then 6 else 0) := Lib.hid (errN_lost hok fun h0 => by
                  have h8 := okG_wide hok
                  have hdv : ∀ j, j < (colsOf l k' t' z).length → (aheadL l k').toNat ≤ devN (colsOf l k' t' z) j ∧ devN (colsOf l k' t' z) j < (aheadL l k').toNat + (l[k']'hBl.hk).2.toNat := fun j hj => by
                    have e1 := hBl.laid.dev0 j hj
                    have e2 := hBl.laid.dev1 j hj
                    have e3 := (hpt.dev j hj).1
                    have e4 := (hBl.right.bounds k' (Nat.le_of_lt hBl.hk)).1
                    omega
                  have := (lackN_few (colsOf l k' t' z) hB _ _ hdv x.n).2
                  rw [hF] at this
                  omega)
                have hF32 := lackN_le (colsOf l k' t' z) hB x.n
                rw [hF] at hF32
                have HFE := Lib.hid hF
                obtain ⟨gg, og, ega, ilt, i0, i1⟩ := K7.out.h.at_ hBl.hk rfl
                subst ega
                have HBL := Lib.hid hBl
                rw [HFN.out]
                have hkl := hBl.hk
                generalize hlk : l[k']'hBl.hk = lk at *
                obtain ⟨kk, u⟩ := lk
                have HLK : Hid (∃ h : k' < l.length, l[k'] = (kk, u)) := Lib.hid ⟨hkl, hlk⟩
                simp only at i0 i1
                have hgk : k' < gn := by omega
                have q6 : (k' : Int) < (gn : Int) := by omega
                clear hpt hlk hkl htb hmb hds hF
                go_wp2_with fail
                refine HTX.out.mono ?_
                rintro e w8 ⟨rfl, rfl⟩
                go_wp2_with fail
                refine HMA.out.mono ?_
                rintro e w9 ⟨rfl, c9⟩
                have K9 := Lib.hid (K7.out.next c9)
                have HF9 := Lib.hid (next HFF.out c9)
                have HS9 := Lib.hid (HS7.out.below c9)
                have HC9 := Lib.hid (HBC.out w9 HS9.out.out.1)
                have HFA := Lib.hid (refFailed_any l x.sc _ w9 K9.out.h.m k' t' z HBL.out (some ⟨gH, 0, none⟩) x.n cH hB h32 fun i hi => ⟨gH, 0, rfl, (HC9.out i hi).2, by rw [Nat.zero_add]; exact (HC9.out i hi).1⟩)
                rw [HFE.out] at HFA
                clear k0 k1 p0 p1 i0 i1
                have k0 := K9.out.h.c0
                have k1 := K9.out.h.c1
                have p0 := K9.out.p0
                have p1 := K9.out.p1
                go_wp2_with fail
                refine HFA.out.mono ?_
                rintro e w10 ⟨rfl, c10⟩
                have K10 := Lib.hid (K9.out.next c10)
                have HF10 := Lib.hid (next HF9.out c10)
                clear k0 k1 p0 p1
                have k0 := K10.out.h.c0
                have k1 := K10.out.h.c1
                have p0 := K10.out.p0
                have p1 := K10.out.p1
                obtain ⟨gg', og', ega', ilt', i0, i1⟩ := K10.out.h.at_ HLK.out.1 HLK.out.2
                simp only [Option.some.injEq, Addr.mk.injEq, and_true] at ega'
                obtain ⟨rfl, rfl⟩ := ega'
                simp only at i0 i1
                have HLO := Lib.hid (fun W => refLost_any kk u F W hok (by omega))
                have e0 : ((F : Int) == (F : Int)) = true := by simp
                obtain ⟨eN, heN⟩ : ∃ eN, errN (kk, u) F = eN := ⟨_, rfl⟩
                rw [heN] at HEL ⊢
                obtain ⟨lo, hlo⟩ : ∃ lo, lostB (kk, u) F = lo := ⟨_, rfl⟩
                rw [hlo] at HEL
                have hlo' : (if kk = 0 then decide ((F : Int) = u) else decide (1 < F)) = lo := hlo
                rw [hlo'] at HLO
                clear hlo hlo' heN hok
                cases lo with
                | true =>
                  have e2 : eN = 6 := HEL.out
                  subst e2
                  go_wp2_with fail
                  refine (HLO.out _).mono ?_
                  rintro e w11 ⟨rfl, c11⟩
                  have HF11 := Lib.hid (next HF10.out c11)
                  go_wp2
                  go_ret
                  exact ⟨rfl, HF11.out⟩
                | false =>
                  have e2 : eN = 0 := HEL.out
                  subst e2
                  go_wp2_with fail
                  refine (HLO.out _).mono ?_
                  rintro e w11 ⟨rfl, c11⟩
                  have HF11 := Lib.hid (next HF10.out c11)
                  go_wp2
                  go_ret
                  exact ⟨rfl, HF11.out⟩
  · have HFF := Lib.hid K2.out.h.below
    have d1 : decide (1000 < (s.size : Int)) = true := by rw [decide_eq_true_iff]; omega
    go_wp2_with fail
    refine (awake8 _).mono ?_
    rintro e w4 ⟨rfl, c4⟩
    go_wp2
    go_ret
    exact ⟨rfl, next HFF.out c4⟩
end Go.Proofs.Ytlhnmcopioeboaa
