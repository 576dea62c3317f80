/-
  The document's Of, Text, Fits (polderref06, polderref07), of any block.
-/
import Derived.Test.YtpalgadokdcgnaaMd
import Derived.Test.YtpalgadokdcgnaaCu
namespace Go.Proofs.Ytpalgadokdcgnaa
set_option maxRecDepth 100000
open Go.RowKit M

theorem refOf_any (l : List (Int × Int)) (sc : Int) (v : Value) (w : World) (h : Meas w v l sc) (k t z : Nat) (hB : Blk l sc k t z) :
    Calls Try.prog 36 #[v, .agg #[.int .i64 (k : Int), .int .i64 (t : Int)], .int .i64 (z : Int)] w fun e w' => ∃ v', e = .returned v' ∧ OwnC w.heap.size w' v' (colsOf l k t z) ∧ Below w.heap.size w w' := by
  obtain ⟨kk, u, hK⟩ := hB.kinded
  have hk := hB.hk
  have hlk : l[k] = (kk, (u : Int)) := by rw [← getD_at hk]; exact hK.grp
  have hfit := hB.fit
  have hb := hB.bounds
  have hs1 := hB.right.s1
  have htk := takesG_pos l[k] z (by have := hB.z1; omega) (by have := hB.z4; omega)
  rcases hK.ok with ⟨rfl, _, _, e, _⟩ | ⟨rfl, _, _, e, _⟩
  · have ht : (t : Int) ≤ 4096 := by
      rw [hlk] at hfit htk
      have hg : gives (0, (u : Int)) sc ≤ sc := by unfold gives; simp; omega
      omega
    rw [e]
    exact refOf_mir l sc v w h hB.right k hk u hlk t (by omega) ht z hB.z4
  · rw [e]
    exact refOf_par l sc v w h hB.right k hk u hlk t (by omega) z hB.z4

/-- Is a text of N bytes a block's? -/
def textB (N : Nat) : Bool := decide (0 < N) && decide (N ≤ 256) && decide (N % 64 = 0)
theorem text_may (l : List (Int × Int)) (sc k t : Int) (N : Nat) : (textB N && mayL l sc k t ((N / 64 : Nat) : Int)) = mayT l sc k t N := by
  unfold mayT
  cases hm : mayL l sc k t ((N / 64 : Nat) : Int) with
  | false => simp
  | true =>
    obtain ⟨k', t', z', _, _, hz, hB⟩ := mayL_iff.1 hm
    have h1 := hB.z1
    have h4 := hB.z4
    rw [Bool.and_true, Bool.and_true]
    unfold textB
    by_cases h : N % 64 = 0
    · simp [h]; omega
    · simp [h]
theorem refText_any (s : ByteArray) (w : World) (hs : s.size ≤ 1000) :
    Calls Try.prog 16 #[.string s] w fun e w' => e = .returned (.bool (textB s.size)) ∧ w = w' := by
  obtain ⟨N, hN⟩ : ∃ N, s.size = N := ⟨_, rfl⟩
  have HN := Lib.hid hN
  rw [hN] at hs
  by_cases h0 : 0 < N
  · by_cases h1 : N ≤ 256
    · obtain ⟨r, hr⟩ : ∃ r, N % 64 = r := ⟨_, rfl⟩
      have q3 : Int.tmod (N : Int) 64 = (r : Int) := by rw [Int.tmod_eq_emod_of_nonneg (by omega)]; omega
      by_cases h2 : r = 0
      · have hb : ((r : Int) == 0) = true := by simp; omega
        have HT : Hid (textB N = true) := Lib.hid (by unfold textB; rw [decide_eq_true h0, decide_eq_true h1, hr, h2]; rfl)
        clear h2 hr
        go_enter Try.func16, Try.ntmps16
        go_wp2
        go_ret
        exact ⟨by first | (rw [HN.out, HT.out]; simp; done) | (rw [HT.out]; rfl), rfl⟩
      · have hb : ((r : Int) == 0) = false := by simp; omega
        have HT : Hid (textB N = false) := Lib.hid (by unfold textB; rw [hr]; simp [h2])
        clear h2 hr
        go_enter Try.func16, Try.ntmps16
        go_wp2
        go_ret
        exact ⟨by first | (rw [HN.out, HT.out]; simp; done) | (rw [HT.out]; rfl), rfl⟩
    · have HT : Hid (textB N = false) := Lib.hid (by unfold textB; simp [h1])
      go_enter Try.func16, Try.ntmps16
      go_wp2
      go_ret
      exact ⟨by first | (rw [HN.out, HT.out]; simp; done) | (rw [HT.out]; rfl), rfl⟩
  · have HT : Hid (textB N = false) := Lib.hid (by unfold textB; simp [h0])
    go_enter Try.func16, Try.ntmps16
    go_wp2
    go_ret
    exact ⟨by first | (rw [HN.out, HT.out]; simp; done) | (rw [HT.out]; rfl), rfl⟩

set_option maxHeartbeats 2000000 in
theorem refFits_any (l : List (Int × Int)) (sc : Int) (v : Value) (w : World) (h : Meas w v l sc) (k t z : Int) (hk : I64 k) (ht : I64 t) (hz : I64 z) (G : List ByteArray) (vG : Value) (hG : Txt w vG G) (hm : G.length ≤ 100000) (hsz : ∀ s ∈ G, s.size ≤ 100000) :
    Calls Try.prog 18 #[v, .agg #[.int .i64 k, .int .i64 t], .int .i64 z, vG] w fun e w' => e = .returned (.bool (fitsL l sc k t z G)) ∧ Below w.heap.size w w' := by
  have K1 := h
  obtain ⟨a, n, c, rfl, hg⟩ := id h
  replace K1 := Lib.hid (HeldP.start k t K1)
  obtain ⟨aG, cG, rfl, hcG, hjG⟩ := hG
  have HJ := Lib.hid hjG
  have HZ := Lib.hid hsz
  obtain ⟨nG, hn⟩ : ∃ nG, G.length = nG := ⟨_, rfl⟩
  rw [hn] at hcG hm ⊢
  have HN := Lib.hid hn
  clear h hg hjG hsz hn
  cases hmay : mayL l sc k t z with
  | false =>
    have HM := Lib.hid (may_any l sc _ _ K1.out.h.m k t z hk ht hz false hmay)
    have HF : Hid (fitsL l sc k t z G = false) := Lib.hid (by unfold fitsL; rw [hmay]; rfl)
    clear hmay hk ht hz
    go_enter Try.func18, Try.ntmps18
    go_wp2_with fail
    refine HM.out.mono ?_
    rintro e w1 ⟨rfl, b1⟩
    go_wp2
    go_ret
    exact ⟨by rw [HF.out]; rfl, next K1.out.h.below b1⟩
  | true =>
    have HM := Lib.hid (may_any l sc _ _ K1.out.h.m k t z hk ht hz true hmay)
    obtain ⟨k', t', z', rfl, rfl, rfl, hB⟩ := mayL_iff.1 hmay
    have HF : Hid (fitsL l sc k' t' z' G = (decide ((colsOf l k' t' z').length = nG) && fitL G)) := Lib.hid (by unfold fitsL; rw [hmay, Bool.true_and, HN.out]; rfl)
    have HB := Lib.hid hB
    obtain ⟨m, hmm⟩ : ∃ m, (colsOf l k' t' z').length = m := ⟨_, rfl⟩
    have hm32 : m ≤ 32 := by rw [← hmm]; exact hB.laid.few
    have hm0 : 0 < m := by rw [← hmm]; exact hB.laid.pos
    have HMM := Lib.hid hmm
    clear hmay hk ht hz hB hmm
    go_enter Try.func18, Try.ntmps18
    go_wp2_with fail
    refine HM.out.mono ?_
    rintro e w1 ⟨rfl, b1⟩
    have K2 := Lib.hid (K1.out.next b1)
    have k0 := K2.out.h.c0
    have k1 := K2.out.h.c1
    have p0 := K2.out.p0
    have p1 := K2.out.p1
    clear b1 K1
    go_wp2_with fail
    refine (refOf_any l sc _ _ K2.out.h.m k' t' z' HB.out).mono ?_
    rintro e w2 ⟨v2, rfl, hO, b2⟩
    obtain ⟨a2, c2, rfl⟩ := hO.none
    rw [HMM.out]
    have HW := Lib.hid (next K2.out.h.below b2)
    clear hO b2 K2 k0 k1 p0 p1
    by_cases hl : m = nG
    · subst hl
      have HF2 : Hid (fitsL l sc k' t' z' G = fitL G) := Lib.hid (by rw [HF.out, HMM.out]; simp)
      go_wp2_with fail
      go_loop [9] (fun i => ∃ k : Nat, k ≤ m ∧ i = .int .i64 k ∧ Hid (fitTo G k)) (fun i => m - (intOf i).toNat)
      case atStart => exact ⟨0, Nat.zero_le _, rfl, Lib.hid fun j _ hj => absurd hj (Nat.not_lt_zero _)⟩
      case round =>
        obtain ⟨i, hi, rfl, H⟩ := hrel
        by_cases him : i < m
        · have him' : i < G.length := by rw [HN.out]; exact him
          obtain ⟨g, o, rfl, hg, hck⟩ := HJ.out i him'
          have hcw := (HW.out.cell (p := ⟨g, o + i, none⟩) hg).trans hck
          have hys : G[i].size ≤ 100000 := HZ.out _ (List.getElem_mem _)
          generalize hs : G[i] = y at hcw hys
          have HS : Hid (∃ h : i < G.length, G[i] = y) := Lib.hid ⟨him', hs⟩
          clear hs him' hck
          by_cases hy0 : y.size = 0
          · have hb : ((y.size : Int) == 0) = true := beq_iff_eq.2 (by omega)
            have hb2 : ((y.size : Int) != 0) = false := by unfold bne; rw [hb]; rfl
            have HSY : Hid (secT y = true) := Lib.hid (by unfold secT; simp [hy0])
            clear hy0
            go_wp2
            go_round
            case rel =>
              refine ⟨i + 1, by omega, by go_num, Lib.hid fun j hj hjk => ?_⟩
              by_cases e : j = i
              · subst e
                obtain ⟨_, hs⟩ := HS.out
                rw [hs]; exact HSY.out
              · exact H.out j hj (by omega)
            case measure => simp [intOf]; omega
          · have hb : ((y.size : Int) == 0) = false := beq_eq_false_iff_ne.2 (by omega)
            have hb2 : ((y.size : Int) != 0) = true := by unfold bne; rw [hb]; rfl
            by_cases hy64 : y.size = 64
            · have hb3 : ((y.size : Int) == 64) = true := beq_iff_eq.2 (by omega)
              have hb4 : ((y.size : Int) != 64) = false := by unfold bne; rw [hb3]; rfl
              have HSY : Hid (secT y = true) := Lib.hid (by unfold secT; simp [hy64])
              clear hy0 hy64
              go_wp2
              go_round
              case rel =>
                refine ⟨i + 1, by omega, by go_num, Lib.hid fun j hj hjk => ?_⟩
                by_cases e : j = i
                · subst e
                  obtain ⟨_, hs⟩ := HS.out
                  rw [hs]; exact HSY.out
                · exact H.out j hj (by omega)
              case measure => simp [intOf]; omega
            · have hb3 : ((y.size : Int) == 64) = false := beq_eq_false_iff_ne.2 (by omega)
              have hb4 : ((y.size : Int) != 64) = true := by unfold bne; rw [hb3]; rfl
              have HSN : Hid (fitL G = false) := Lib.hid (by
                obtain ⟨hk', hs⟩ := HS.out
                refine fit_not hk' ?_
                rw [hs]
                unfold secT
                rw [Bool.or_eq_false_iff, beq_eq_false_iff_ne, beq_eq_false_iff_ne]
                exact ⟨hy0, hy64⟩)
              clear hy0 hy64
              go_wp2
              go_ret
              exact ⟨by rw [HF2.out, HSN.out]; rfl, HW.out⟩
        · have HSY : Hid (fitL G = true) := Lib.hid (fitTo_all (by
            obtain rfl : i = m := by omega
            rw [HN.out]; exact H.out))
          go_wp2
          go_ret
          exact ⟨by rw [HF2.out, HSY.out]; rfl, HW.out⟩
    · have HF2 : Hid (fitsL l sc k' t' z' G = false) := Lib.hid (by rw [HF.out, HMM.out]; simp [hl])
      have hb : ((nG : Int) == (m : Int)) = false := by simp; omega
      have hb2 : ((nG : Int) != (m : Int)) = true := by unfold bne; rw [hb]; rfl
      go_wp2
      go_ret
      exact ⟨by rw [HF2.out]; rfl, HW.out⟩
end Go.Proofs.Ytpalgadokdcgnaa
