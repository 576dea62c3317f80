/-
  code.ofMirror: the function that it answers hands out the tries of a Mirror's columns.
-/
import Derived.Test.YtiffkbmcikiioaaGreatY26
import Derived.Shelf.Abstract
import Derived.Shelf.RegionOpen
import Derived.OwnWalkIn
import Derived.TacticsInMore
import Derived.LoopNIn
import Derived.LoopIn

/- code.ofMirror: the function that it answers hands out the tries of a Mirror's columns. -/
namespace Go.Proofs.YtiffkbmcikiioaaGreat
set_option maxRecDepth 100000
open Go.RowKit Go.Shelf M
attribute [local go_sem] Oper.semAt_some

section
variable {α β : Type} (f : α → Option β) (l : List α)
/-- How many of the first k come. -/
def fmN (k : Nat) : Nat := ((l.take k).filterMap f).length
theorem fm_zero : fmN f l 0 = 0 := by simp [fmN]
theorem fm_all : fmN f l l.length = (l.filterMap f).length := by simp [fmN]
theorem fm_le (k : Nat) : fmN f l k ≤ (l.filterMap f).length := by
  unfold fmN
  exact List.Sublist.length_le (List.Sublist.filterMap f (List.take_sublist k l))
theorem fm_some {k : Nat} (hk : k < l.length) {x : β} (h : f l[k] = some x) : (l.filterMap f)[fmN f l k]? = some x ∧ fmN f l (k + 1) = fmN f l k + 1 := by
  have e : l.filterMap f = (l.take k).filterMap f ++ x :: (l.drop (k + 1)).filterMap f := by
    conv => lhs; rw [← List.take_append_drop k l, List.drop_eq_getElem_cons hk, List.filterMap_append, List.filterMap_cons_some h]
  refine ⟨?_, ?_⟩
  · rw [e]; unfold fmN; rw [List.getElem?_append_right (Nat.le_refl _), Nat.sub_self]; rfl
  · unfold fmN
    rw [List.take_succ_eq_append_getElem hk, List.filterMap_append, List.length_append, List.filterMap_cons_some h]; rfl
theorem fm_none {k : Nat} (hk : k < l.length) (h : f l[k] = none) : fmN f l (k + 1) = fmN f l k := by
  unfold fmN
  rw [List.take_succ_eq_append_getElem hk, List.filterMap_append, List.length_append, List.filterMap_cons_none h]; rfl
end

/-- A try's two values. -/
def encT (x : Int × ByteArray) : Array Value := #[.int .i64 x.1, .string x.2]

theorem joined_no (l : List ByteArray) (v : Value) (w : World) (h : Txt w v l) (hm : l.length ≤ 100000) (hz : ∀ s ∈ l, s.size ≤ 100000) (hh : holeL l = true) :
    Calls Tryz.prog 92 #[v] w fun e w' => e = .returned (.tuple #[.string ⟨#[]⟩, .bool false]) ∧ Below w.heap.size w w' := by
  have := joined_any l v w h hm hz
  rw [hh] at this
  exact this
theorem joined_yes (l : List ByteArray) (v : Value) (w : World) (h : Txt w v l) (hm : l.length ≤ 100000) (hz : ∀ s ∈ l, s.size ≤ 100000) (hh : holeL l = false) :
    Calls Tryz.prog 92 #[v] w fun e w' => e = .returned (.tuple #[.string (joinB l), .bool true]) ∧ Below w.heap.size w w' := by
  have := joined_any l v w h hm hz
  rw [hh] at this
  exact this

/-- What a Mirror's function holds. -/
structure MirS (w : World) (B b1 b2 b3 : Nat) (vL vG : Value) (z : Nat) (L : List C) (G : List ByteArray) : Prop where
  c1 : w.cell? ⟨b1, 0, none⟩ = some vL
  c2 : w.cell? ⟨b2, 0, none⟩ = some (.int .i64 (z : Int))
  c3 : w.cell? ⟨b3, 0, none⟩ = some vG
  l1 : B ≤ b1 ∧ b1 < w.heap.size
  l2 : B ≤ b2 ∧ b2 < w.heap.size
  l3 : B ≤ b3 ∧ b3 < w.heap.size
  cols : OwnC B w vL L
  txts : Own w B vG G
theorem MirS.since {w w' : World} {B b1 b2 b3 : Nat} {vL vG : Value} {z : Nat} {L : List C} {G : List ByteArray} (h : MirS w B b1 b2 b3 vL vG z L G) (hs : Since B w w') : MirS w' B b1 b2 b3 vL vG z L G :=
  ⟨by rw [hs.cell (p := ⟨b1, 0, none⟩) h.l1.1 h.l1.2]; exact h.c1, by rw [hs.cell (p := ⟨b2, 0, none⟩) h.l2.1 h.l2.2]; exact h.c2, by rw [hs.cell (p := ⟨b3, 0, none⟩) h.l3.1 h.l3.2]; exact h.c3,
    ⟨h.l1.1, Nat.lt_of_lt_of_le h.l1.2 hs.size⟩, ⟨h.l2.1, Nat.lt_of_lt_of_le h.l2.2 hs.size⟩, ⟨h.l3.1, Nat.lt_of_lt_of_le h.l3.2 hs.size⟩, h.cols.since hs, h.txts.since hs⟩

theorem chunk_len {G : List ByteArray} {u z d : Nat} (hG : G.length = u * z) (hd : d < u) : (chunk G z d).length = z := by
  unfold chunk
  rw [List.length_take, List.length_drop, hG]
  have : (d + 1) * z ≤ u * z := Nat.mul_le_mul_right _ hd
  rw [Nat.add_mul] at this
  omega
theorem chunk_txt {w : World} {g o c : Nat} {G : List ByteArray} {u z d p : Nat} (hp : d * z = p) (hc : p + z ≤ c) (hG : G.length = u * z) (hd : d < u) (hg : g < w.heap.size) (hj : ∀ j (h : j < G.length), w.cell? ⟨g, o + j, none⟩ = some (.string G[j])) :
    Txt w (.slice (some ⟨g, o + p, none⟩) z (c - p)) (chunk G z d) := by
  have hl := chunk_len hG hd
  have hb : d * z + z ≤ u * z := by rw [← Nat.succ_mul]; exact Nat.mul_le_mul_right _ hd
  subst hp
  have := Txt.mk (w := w) (g := g) (o := o + d * z) (c := c - d * z) (l := chunk G z d) (by rw [hl]; omega) hg (fun j h => by
    have hjG : d * z + j < G.length := by rw [hG]; omega
    rw [Nat.add_assoc, hj _ hjG]
    have e : (chunk G z d)[j]? = some G[d * z + j] := by
      unfold chunk
      rw [List.getElem?_take, if_pos (by rw [← hl]; exact h), List.getElem?_drop, List.getElem?_eq_getElem hjG]
    rw [List.getElem?_eq_getElem h] at e
    rw [Option.some.inj e])
  rwa [hl] at this

set_option maxHeartbeats 2000000 in
theorem mir1_hands (n : Nat) (hn : 1 ≤ n) (w : World) (B b1 b2 b3 : Nat) (vL vG : Value) (u z : Nat) (L : List C) (G : List ByteArray) (hM : MirS w B b1 b2 b3 vL vG z L G) (hz1 : 1 ≤ z) (hz4 : z ≤ 4) (hu1 : 1 ≤ u) (hu8 : u ≤ 8) (hL : L.length = u * z) (hG : G.length = u * z) (hs : ∀ s ∈ G, s.size ≤ 1000) :
    HandsS Fence.wide n Tryz.prog 91 #[.pointer (some ⟨b1, 0, none⟩), .pointer (some ⟨b2, 0, none⟩), .pointer (some ⟨b3, 0, none⟩)] encT (triesM L G u z) B w := fun l J Jx W hW hJ hJx hJS hY h0 => by
  refine callsIn_of_wp Tryz.func91 rfl trivial ?_ rfl
  simp only [Tryz.ntmps91, List.size_toArray, List.length_cons, List.length_nil, Nat.reduceAdd, Nat.reduceSub, Array.replicate_succ, Array.replicate_zero, List.push_toArray, List.append_toArray, List.nil_append, List.cons_append]
  have hLp : 0 < u * z := Nat.mul_pos hu1 hz1
  obtain ⟨N, hN⟩ : ∃ N, u * z = N := ⟨_, rfl⟩
  rw [hN] at hL hG hLp
  have hN32 : N ≤ 32 := by rw [← hN]; exact Nat.mul_le_mul hu8 hz4
  obtain ⟨g, c, rfl, hc, hgB, hA⟩ := hM.cols.some (by omega)
  obtain ⟨gG, oG, cG, hvG, hcG, hgG, hjG⟩ := hM.txts.txt.isSome (by omega)
  subst hvG
  rw [hL] at hc
  rw [hG] at hcG
  have HM := Lib.hid hM
  rw [hL, hG] at HM
  have HY := Lib.hid hY
  have HJ := Lib.hid hJ
  have HJS := Lib.hid hJS
  have HN := Lib.hid hN
  have HL := Lib.hid hL
  have HG := Lib.hid hG
  have HSZ := Lib.hid hs
  have HJ0 := Lib.hid h0
  clear hY hJ hJx hJS hN hL hG hM hA hjG h0 hs
  have hW2 := HM.out.since hW
  gi_wp2_with fail
  gi_loopw [5] (fun t5 wr => ∃ d p : Nat, d ≤ u ∧ d * z = p ∧ p ≤ N ∧ t5 = .int .i64 (p : Int) ∧ Hid (J (fmN (fun d => tryOf (devAt L (d * z)) (chunk G z d)) (List.range u) d) wr) ∧ Hid (W.heap.size ≤ wr.heap.size)) (fun i _ => N - (intOf i).toNat)
  case atStart => exact ⟨0, 0, Nat.zero_le _, Nat.zero_mul _, Nat.zero_le _, rfl, Lib.hid (by rw [fm_zero]; exact HJ0.out), Lib.hid (Nat.le_refl _)⟩
  case round =>
    obtain ⟨d, p, hd, hp, hpN, rfl, HJd, HWr⟩ := hrel
    have HP := Lib.hid hp
    have hK := HM.out.since (HJS.out _ _ HJd.out)
    have hsz := (HJS.out _ _ HJd.out).size
    have HWS : Hid (W.heap.size ≤ wr.heap.size) := HWr
    obtain ⟨k1, k2, k3, -, -, -, hcols, htx⟩ := hK
    clear hp
    by_cases hlt : p < N
    · have hdu : d < u := by
        rcases Nat.lt_or_ge d u with h | h
        · exact h
        · exfalso
          have := Nat.mul_le_mul_right z h
          rw [HN.out, HP.out] at this
          omega
      have hpz : p + z ≤ N := by
        rw [← HP.out, ← HN.out, ← Nat.succ_mul]; exact Nat.mul_le_mul_right _ hdu
      have hT := chunk_txt (w := wr) (o := oG) (c := cG) HP.out (by omega) (by rw [HG.out, HN.out]) hdu (Nat.lt_of_lt_of_le hgG hsz) (fun j h => by
        obtain ⟨a', o', c', e, _, _, hj⟩ := htx.txt.isSome (by rw [HG.out]; omega)
        rw [HG.out] at e
        cases e
        exact hj j h)
      have hcl := chunk_len (z := z) (d := d) (show G.length = u * z by rw [HG.out, HN.out]) hdu
      have hcs : ∀ s ∈ chunk G z d, s.size ≤ 100000 := fun s hs => Nat.le_trans (HSZ.out s (List.mem_of_mem_drop (List.mem_of_mem_take hs))) (by decide)
      have hpL : p < L.length := by rw [HL.out]; exact hlt
      obtain ⟨x, hx⟩ : ∃ x, L[p] = x := ⟨_, rfl⟩
      have hxc : wr.cell? ⟨g, p * 4, none⟩ = some (.int .i64 x.dev) := by
        obtain ⟨g', c', e, _, _, hA⟩ := hcols.some (by omega)
        rw [HL.out] at e
        cases e
        rw [← hx]
        exact (hA.at_ p hpL).c0
      have hgl : g < wr.heap.size := by
        obtain ⟨g', c', e, _, _, hA⟩ := hcols.some (by omega)
        rw [HL.out] at e
        cases e
        exact hA.lt
      have HTR : Hid (tryOf (devAt L (d * z)) (chunk G z d) = if holeL (chunk G z d) then none else some (x.dev, joinB (chunk G z d))) := Lib.hid (by
        rw [HP.out, devAt_eq hpL, hx]; rfl)
      have HRL : Hid (d < (List.range u).length) := Lib.hid (by simpa using hdu)
      have q1 : IntKind.i64.wrap ((p : Int) + (z : Int)) = (p : Int) + (z : Int) := by rw [IntKind.wrap_i64]; omega
      have q2 : ((p : Int) + (z : Int)).toNat = p + z := by omega
      have q3 : (p : Int) + (z : Int) ≤ cG := by omega
      have q4 : ¬ p = cG := by omega
      have q5 : p + z - p = z := by omega
      have hb1 : b1 < wr.heap.size := Nat.lt_of_lt_of_le HM.out.l1.2 hsz
      have hb2 : b2 < wr.heap.size := Nat.lt_of_lt_of_le HM.out.l2.2 hsz
      clear hpL hx hcols htx
      cases hh : holeL (chunk G z d) with
      | true =>
        have HJN := Lib.hid (joined_no _ _ wr hT (by rw [hcl]; omega) hcs hh)
        have HF := Lib.hid (fm_none (fun d => tryOf (devAt L (d * z)) (chunk G z d)) (List.range u) HRL.out (by simp only [List.getElem_range]; rw [HTR.out, hh]; rfl))
        clear hcl hT hcs hh
        gi_wp2_with fail
        refine ⟨trivial, ?_⟩
        refine (callsIn_wide.2 HJN.out).mono ?_
        rintro e w1 ⟨rfl, b1'⟩
        have k11 := (b1'.cell (p := ⟨b1, 0, none⟩) hb1).trans k1
        have k12 := (b1'.cell (p := ⟨b2, 0, none⟩) hb2).trans k2
        have HJ1 := Lib.hid (HJ.out _ _ _ HJd.out (b1'.mono HWS.out))
        have hs1 := b1'.size
        clear k1 k2 k3 hxc b1' hgl hb1 hb2
        gi_wp2_with fail
        refine ⟨fun f hf => (by cases hf), ?_⟩
        gi_wp2
        go_roundw
        case rel => exact ⟨d + 1, p + z, hdu, by rw [Nat.succ_mul, HP.out], hpz, by go_num, Lib.hid (by rw [HF.out]; exact HJ1.out), Lib.hid (Nat.le_trans HWS.out hs1)⟩
        case measure => simp [intOf]; omega
      | false =>
        have HJN := Lib.hid (joined_yes _ _ wr hT (by rw [hcl]; omega) hcs hh)
        obtain ⟨hat, hne⟩ := fm_some (fun d => tryOf (devAt L (d * z)) (chunk G z d)) (List.range u) (x := (x.dev, joinB (chunk G z d))) HRL.out (by simp only [List.getElem_range]; rw [HTR.out, hh]; rfl)
        have HNE := Lib.hid hne
        have HAT := Lib.hid hat
        clear hcl hT hcs hh hne hat
        generalize joinB (chunk G z d) = tx at HAT HJN
        gi_wp2_with fail
        refine ⟨trivial, ?_⟩
        refine (callsIn_wide.2 HJN.out).mono ?_
        rintro e w1 ⟨rfl, b1'⟩
        have hx1 := (b1'.cell (p := ⟨g, p * 4, none⟩) hgl).trans hxc
        have k11 := (b1'.cell (p := ⟨b1, 0, none⟩) hb1).trans k1
        have k12 := (b1'.cell (p := ⟨b2, 0, none⟩) hb2).trans k2
        have HJ1 := Lib.hid (HJ.out _ _ _ HJd.out (b1'.mono HWS.out))
        have hs1 := b1'.size
        clear k1 k2 k3 hxc b1' hgl hb1 hb2
        obtain ⟨fn, tmps, assign, body, hy, hR⟩ := HY.out _ _ w1 HAT.out HJ1.out
        have HRR := Lib.hid hR
        clear hR
        unfold encT at hy
        gi_wp2_with fail
        refine HRR.out.mono ?_
        rintro e w4 (⟨rfl, hJ4, hs4⟩ | ⟨rfl, hx4⟩)
        · have HJ4 := Lib.hid hJ4
          have k24 := (HM.out.since (HJS.out _ _ hJ4)).c2
          have HS4 := Lib.hid hs4.size
          clear hJ4 hs4 k11 k12 hx1
          gi_wp2
          go_roundw
          case rel => exact ⟨d + 1, p + z, hdu, by rw [Nat.succ_mul, HP.out], hpz, by go_num, Lib.hid (by rw [HNE.out]; exact HJ4.out), Lib.hid (Nat.le_trans HWS.out (Nat.le_trans hs1 HS4.out))⟩
          case measure => simp [intOf]; omega
        · gi_wp2
          refine bodyPost_ret (results_none rfl _ _ _) rfl ?_
          exact ⟨⟨_, rfl⟩, .inr ⟨_, by rw [← HNE.out]; exact fm_le _ _ _, hx4⟩⟩
    · have hpe : p = N := by omega
      have hde : d = u := by
        have h1 := HP.out
        rw [hpe, ← HN.out] at h1
        exact Nat.eq_of_mul_eq_mul_right hz1 h1
      have HE := Lib.hid hde
      gi_wp2
      go_end0
      refine ⟨⟨_, rfl⟩, .inl ?_⟩
      have h1 := HJd.out
      rw [HE.out] at h1
      have h2 := fm_all (fun d => tryOf (devAt L (d * z)) (chunk G z d)) (List.range u)
      rw [List.length_range] at h2
      rw [h2] at h1
      exact h1
end Go.Proofs.YtiffkbmcikiioaaGreat
