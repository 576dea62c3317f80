/-
  The walk of polderlaw07.CodeBad: it returns true, and writes nothing that was there.
-/
import Derived.Test.YtpalgadokdcgnaaMe
namespace Go.Proofs.Ytpalgadokdcgnaa
set_option maxRecDepth 100000
open Go.RowKit M

theorem badL_same (E : List ByteArray) : ∀ n, badL E E n = [] := by
  intro n
  induction n with
  | zero => rfl
  | succ n ih => rw [badL_no (neB_false.2 rfl), ih]
theorem badL_one {E : List ByteArray} {j : Nat} {y : ByteArray} (hj : j < E.length) (hne : E.getD j ⟨#[]⟩ ≠ y) : ∀ n, n ≤ E.length → badL E (E.set j y) n = if j < n then [(j : Int)] else [] := by
  intro n
  induction n with
  | zero => intro _; rw [if_neg (by omega)]; rfl
  | succ n ih =>
    intro hn
    by_cases e : j = n
    · subst e
      rw [badL_yes, ih (by omega), if_neg (by omega), if_pos (by omega)]
      · rfl
      · rw [neB_true, List.getD_eq_getElem?_getD, List.getElem?_set_self hj]
        exact fun h => hne h.symm
    · rw [badL_no, ih (by omega)]
      · by_cases h : j < n
        · rw [if_pos h, if_pos (by omega)]
        · rw [if_neg h, if_neg (by omega)]
      · rw [neB_false, List.getD_eq_getElem?_getD, List.getElem?_set_ne e, ← List.getD_eq_getElem?_getD]
theorem set_xor_ne {p : ByteArray} {j : Nat} (hj : j < p.data.toList.length) {b : UInt8} (hb : b ≠ 0) : p ≠ ⟨(p.data.toList.set j (p.data.toList[j] ^^^ b)).toArray⟩ := by
  intro e
  have e2 := congrArg (fun q : ByteArray => q.data.toList[j]?) e
  simp only [List.getElem?_set_self hj, List.getElem?_eq_getElem hj, Option.some.injEq] at e2
  have : p.data.toList[j] ^^^ (p.data.toList[j] ^^^ b) = 0 := by rw [← e2, UInt8.xor_self]
  rw [← UInt8.xor_assoc, UInt8.xor_self, UInt8.zero_xor] at this
  exact hb this
theorem set_xor_same {p : ByteArray} {j : Nat} (hj : j < p.data.toList.length) : (⟨(p.data.toList.set j (p.data.toList[j] ^^^ 0)).toArray⟩ : ByteArray) = p := extL (by rw [UInt8.xor_zero, List.set_getElem_self])

theorem Enc7.bad {l : List (Int × Int)} {sc : Int} {k t z : Nat} {s : ByteArray} {kk : Int} {u : Nat} {L : List C} {f : Nat → ByteArray} (h : Enc7 l sc k t z s kk u L f) {G : List ByteArray} (hl : G.length = L.length) (hG : ∀ x ∈ G, x.size = 0 ∨ x.size = 64) : badOf l sc k t s G = badL (encL L f) G L.length := by
  unfold badOf
  have hz : s.size / 64 = z := by rw [h.hs, Nat.mul_div_cancel _ (by decide)]
  rw [mayT_iff.2 ⟨k, t, z, rfl, rfl, h.hs, h.blk⟩, hz, h.fits hl hG]
  show badL (encOf l k t z s) G (encOf l k t z s).length = _
  rw [h.enc, encL_len]

set_option maxHeartbeats 4000000 in
theorem walk_CodeBad (v : Value) (l : List (Int × Int)) (sc k t : Int) (s : ByteArray) (at_ by_ : Int) (w : World) (h : Meas w v l sc) (hk : I64 k) (ht : I64 t) (hs : s.size ≤ maxLen) (hat : (Lit.int .u8 at_).wf = true) (hby : (Lit.int .u8 by_).wf = true) :
    Calls Try.prog 4 #[v, .agg #[.int .i64 k, .int .i64 t], .string s, .int .u8 at_, .int .u8 by_] w fun e w' => e = .returned (.bool true) ∧ Below w.heap.size w w' := by
  obtain ⟨a0, a1⟩ : 0 ≤ at_ ∧ at_ ≤ 255 := by simpa [Lit.wf, IntKind.min, IntKind.max, IntKind.signed, IntKind.bits] using hat
  obtain ⟨b0, b1⟩ : 0 ≤ by_ ∧ by_ ≤ 255 := by simpa [Lit.wf, IntKind.min, IntKind.max, IntKind.signed, IntKind.bits] using hby
  clear hat hby
  unfold maxLen at hs
  have K1 := h
  obtain ⟨a, n, c, rfl, hg⟩ := id h
  replace K1 := Lib.hid (HeldP.start k t K1)
  have HI := Lib.hid hk
  have HT := Lib.hid ht
  clear h hg hk ht
  go_enter Try.func4, Try.ntmps4
  go_wp2_with fail
  refine (cawake_any _).mono ?_
  rintro e w1 ⟨rfl, c1⟩
  have K2 := Lib.hid (K1.out.next c1)
  clear c1 K1
  have k0 := K2.out.h.c0
  have k1 := K2.out.h.c1
  go_wp2_with fail
  refine (cfew_any l sc _ _ K2.out.h.m [] _ ⟨none, 0, rfl, Nat.le_refl _, fun j hj => absurd hj (Nat.not_lt_zero _)⟩ (by decide) (fun s hs => by cases hs)).mono ?_
  rintro e w2 ⟨v2, rfl, ⟨b, rfl, -⟩, c2⟩
  have K3 := Lib.hid (K2.out.next c2)
  clear c2 K2 k0 k1
  by_cases hgo : b = true ∧ s.size ≤ 1000
  · obtain ⟨rfl, hs1⟩ := hgo
    have k0 := K3.out.h.c0
    have k1 := K3.out.h.c1
    have p0 := K3.out.p0
    have p1 := K3.out.p1
    go_wp2_with fail
    refine (encode_any l sc _ _ K3.out.h.m k t HI.out HT.out s hs1).mono ?_
    rintro e w4 ⟨v4, er, rfl, he, c4⟩
    have K5 := Lib.hid (K3.out.next c4)
    have HC4 := Lib.hid c4
    clear c4 k0 k1 p0 p1
    rcases he with ⟨-, rfl, rfl⟩ | ⟨k', t', z', rfl, rfl, hsz, hB, rfl, hO⟩
    · go_wp2
      go_ret
      exact ⟨rfl, K5.out.h.below⟩
    · obtain ⟨kk, u, hE⟩ := hB.enc7 hsz
      rw [hE.enc] at hO
      generalize hL : colsOf l k' t' z' = L at hE hO
      generalize (fun i => sect s (i % z')) = f at hE hO
      obtain ⟨hm0, hm32⟩ := hE.few
      have hEl := encL_len L f
      have hEs := encL_size hE.sound hE.hf
      have HFI : Hid (fitsL l sc k' t' z' (encL L f) = true) := Lib.hid (hE.fits hEl fun x hx => .inr (hEs x hx))
      have HBA : Hid (badOf l sc k' t' s (encL L f) = []) := Lib.hid (by rw [hE.bad hEl fun x hx => .inr (hEs x hx)]; exact badL_same _ _)
      have HFS : Hid (∀ j y, j < L.length → y.size = 64 → badOf l sc k' t' s ((encL L f).set j y) = badL (encL L f) ((encL L f).set j y) L.length) := Lib.hid fun j y hj hy => hE.bad (by rw [List.length_set]; exact hEl) fun x hx => .inr (by
        rcases List.mem_or_eq_of_mem_set hx with h | h
        · exact hEs x h
        · rw [h]; exact hy)
      generalize encL L f = E at hO hEl hEs HFI HBA HFS
      generalize L.length = m at hm0 hm32 hEl HFS
      have HEL := Lib.hid hEl
      have HES := Lib.hid hEs
      obtain ⟨a4, cc4, e4, -⟩ := hO.txt
      rw [hEl] at e4
      subst e4
      have hcz : z' ≤ 4 := hB.z4
      have q4 : Int.tdiv (s.size : Int) 64 = (z' : Int) := by rw [Int.tdiv_eq_ediv_of_nonneg (by omega)]; omega
      have HO := Lib.hid hO
      have HSZ := Lib.hid hsz
      clear hO hEl hEs hE hB hL hsz
      have k0 := K5.out.h.c0
      have k1 := K5.out.h.c1
      have p0 := K5.out.p0
      have p1 := K5.out.p1
      go_wp2_with fail
      refine (bad_any l sc _ _ K5.out.h.m k' t' HI.out HT.out s hs1 E _ HO.out.txt (by rw [HEL.out]; omega)).mono ?_
      rintro e w5 ⟨v5, rfl, hO5, c5⟩
      rw [HBA.out] at hO5
      obtain ⟨a5, n5, cc5, rfl, hn5, -⟩ := hO5.v
      have hn5' : 0 = n5 := hn5
      subst hn5'
      have K6 := Lib.hid (K5.out.next c5)
      have HO6 := Lib.hid (HO.out.below c5)
      have HC5 := Lib.hid (next HC4.out c5)
      clear hO5 hn5 c5 k0 k1 p0 p1 K5 HO
      have k0 := K6.out.h.c0
      have k1 := K6.out.h.c1
      have p0 := K6.out.p0
      have p1 := K6.out.p1
      go_wp2_with fail
      refine (fits_any l sc _ _ K6.out.h.m k' t' z' HI.out HT.out ⟨by omega, by omega⟩ E _ HO6.out.txt (by rw [HEL.out]; omega)).mono ?_
      rintro e w6 ⟨rfl, c6⟩
      rw [HFI.out]
      have K7 := Lib.hid (K6.out.next c6)
      have HO7 := Lib.hid (HO6.out.below c6)
      have HC6 := Lib.hid (next HC5.out c6)
      clear c6 k0 k1 p0 p1 K6 HO6
      obtain ⟨A, rfl⟩ := Int.eq_ofNat_of_zero_le a0
      obtain ⟨bb, rfl⟩ : ∃ bb : UInt8, by_ = (bb.toNat : Int) := ⟨UInt8.ofNat by_.toNat, by rw [UInt8.toNat_ofNat']; omega⟩
      obtain ⟨kx, hkx⟩ : ∃ kx, A % m = kx := ⟨_, rfl⟩
      obtain ⟨jx, hjx⟩ : ∃ jx, A % 64 = jx := ⟨_, rfl⟩
      have hkm : kx < m := by rw [← hkx]; exact Nat.mod_lt _ hm0
      have hj64 : jx < 64 := by omega
      have r1 : Int.tmod (A : Int) (m : Int) = (kx : Int) := by rw [Int.tmod_eq_emod_of_nonneg (by omega), ← hkx]; rfl
      have r2 : Int.tmod (A : Int) 64 = (jx : Int) := by rw [Int.tmod_eq_emod_of_nonneg (by omega), ← hjx]; rfl
      have r3 : ¬ (m : Int) = 0 := by omega
      have r4 : ((m : Int) == 0) = false := by simp; omega
      obtain ⟨q, hq⟩ : ∃ q, Int.tdiv (A : Int) (m : Int) = q := ⟨_, rfl⟩
      obtain ⟨g4, rfl, hg4B, hg4, _, hcc, hfz, hcl⟩ := HO7.out.at_ (by omega)
      obtain ⟨p, hp⟩ : ∃ p, E[kx]'(by rw [HEL.out]; exact hkm) = p := ⟨_, rfl⟩
      have hck := hcl kx (by rw [HEL.out]; exact hkm)
      have hfk := hfz kx hkm
      rw [hp] at hck
      have hps : p.size = 64 := by rw [← hp]; exact HES.out _ (List.getElem_mem _)
      have HPE : Hid (E.getD kx ⟨#[]⟩ = p) := Lib.hid (getD_some ⟨_, hp⟩)
      have hco := conv_to w6 p
      rw [hps] at hco
      have hb8 := bytesW_below w6 p
      have hrow := bytesW_row w6 p
      generalize grownCap w6 64 0 5 = cap at hco
      generalize bytesW w6 p = w8 at hco hb8 hrow
      have hpl : p.data.toList.length = 64 := by rw [← sizeL]; exact hps
      have hbj := hrow.c jx (by rw [hpl]; exact hj64)
      have hbf := hrow.f jx (by rw [hpl]; exact hj64)
      have hxb := xor_bits (p.data.toList[jx]'(by rw [hpl]; exact hj64)) bb
      have hrow9 := hrow.set jx (by rw [hpl]; exact hj64) (p.data.toList[jx]'(by rw [hpl]; exact hj64) ^^^ bb)
      have hcf := conv_from _ w6.heap.size _ hrow9 64 cap (by rw [List.length_set]; exact hpl.symm)
      obtain ⟨y, hy⟩ : ∃ y : ByteArray, (⟨(p.data.toList.set jx (p.data.toList[jx]'(by rw [hpl]; exact hj64) ^^^ bb)).toArray⟩ : ByteArray) = y := ⟨_, rfl⟩
      rw [hy] at hcf
      have HY0 : Hid (bb = 0 → y = p) := Lib.hid fun e => by subst e; rw [← hy]; exact set_xor_same _
      have HY1 : Hid (bb ≠ 0 → p ≠ y) := Lib.hid fun e => by rw [← hy]; exact set_xor_ne _ e
      have HYS : Hid (y.size = 64) := Lib.hid (by rw [← hy, sizeL]; simp; simpa using hpl)
      generalize p.data.toList[jx]'(by rw [hpl]; exact hj64) ^^^ bb = xb at hxb hcf hrow9
      generalize p.data.toList[jx]'(by rw [hpl]; exact hj64) = pj at hxb hbj
      have b9 : Below w6.heap.size w6 (w8.setCell ⟨w6.heap.size, jx, none⟩ (.int .u8 (xb.toNat : Int))) := hb8.setCell (p := ⟨w6.heap.size, jx, none⟩) (Nat.le_refl _) _
      have hck9 := (b9.cell (p := ⟨g4, kx, none⟩) hg4).trans hck
      have hfk9 := (b9.frozen (p := ⟨g4, kx, none⟩) hg4).trans hfk
      have HO10 := Lib.hid ((HO7.out.below b9).set kx hkm y)
      have B10 : Below w2.heap.size w2 ((w8.setCell ⟨w6.heap.size, jx, none⟩ (.int .u8 (xb.toNat : Int))).setCell ⟨g4, kx, none⟩ (.string y)) := (HC6.out.trans (b9.mono HC6.out.size)).setCell (p := ⟨g4, kx, none⟩) hg4B _
      have K10 := Lib.hid (K3.out.next B10)
      have k0 := K10.out.h.c0
      have k1 := K10.out.h.c1
      have p0 := K10.out.p0
      have p1 := K10.out.p1
      clear B10 hb8 hrow hrow9 b9 hcl hfz HO7 K7 K3 HC4 HC5 HC6 hq
      have a2 : ((jx : Int)).toNat = jx := by omega
      have a3 : ((kx : Int)).toNat = kx := by omega
      go_wp2_with fail
      refine (bad_any l sc _ _ K10.out.h.m k' t' HI.out HT.out s hs1 (E.set kx y) _ HO10.out.txt (by rw [List.length_set, HEL.out]; omega)).mono ?_
      rintro e w11 ⟨v11, rfl, hO11, c11⟩
      rw [HFS.out kx y hkm HYS.out] at hO11
      have HBL := Lib.hid (next K10.out.h.below c11)
      by_cases hb0 : bb = 0
      · have hy0 := HY0.out hb0
        have hset : E.set kx y = E := by
          rw [hy0, ← HPE.out, List.getD_eq_getElem?_getD, List.getElem?_eq_getElem (by rw [HEL.out]; exact hkm)]
          simp
        rw [hset, badL_same] at hO11
        obtain ⟨a6, n6, c6, rfl, hn6, -⟩ := hO11.v
        have hn6' : 0 = n6 := hn6
        subst hn6'
        subst hb0
        clear hO11 hn6 c11 hset hy0
        have hz0 : ((0 : UInt8).toNat : Int) = 0 := rfl
        rw [hz0]
        go_wp2
        go_ret
        exact ⟨rfl, HBL.out⟩
      · have hne := HY1.out hb0
        rw [← HPE.out] at hne
        rw [badL_one (by rw [HEL.out]; exact hkm) hne m (by rw [HEL.out]; exact Nat.le_refl _), if_pos hkm] at hO11
        obtain ⟨g6, c6, rfl, hc6, _, hg6, hj6⟩ := hO11.at_ (by simp)
        have hj60 := hj6 0 (by simp)
        have e60 : ([(kx : Int)] : List Int)[0] = (kx : Int) := rfl
        rw [e60] at hj60
        have el : ([(kx : Int)] : List Int).length = 1 := rfl
        rw [el]
        rw [el] at hc6
        have hb1 : ((bb.toNat : Int) == 0) = false := by
          rw [beq_eq_false_iff_ne]
          intro e
          apply hb0
          apply UInt8.toNat_inj.1
          have : bb.toNat = 0 := by omega
          rw [this]; rfl
        have hb2 : ((bb.toNat : Int) != 0) = true := by unfold bne; rw [hb1]; rfl
        clear hO11 hj6 c11 hne hb0 e60 el
        go_wp2
        go_ret
        exact ⟨rfl, HBL.out⟩
  · cases b with
    | false =>
      go_wp2_with fail
      refine (cawake_any _).mono ?_
      rintro e w4 ⟨rfl, c4⟩
      go_wp2
      go_ret
      exact ⟨rfl, next K3.out.h.below c4⟩
    | true =>
      have hs1 : ¬ s.size ≤ 1000 := fun h => hgo ⟨rfl, h⟩
      go_wp2_with fail
      refine (cawake_any _).mono ?_
      rintro e w4 ⟨rfl, c4⟩
      go_wp2
      go_ret
      exact ⟨rfl, next K3.out.h.below c4⟩
end Go.Proofs.Ytpalgadokdcgnaa
