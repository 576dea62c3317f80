/-
  code.ofParity: the function that it answers hands out the tries of a Parity's columns.
-/
import Derived.Test.YtiffkbmcikiioaaGreatY27

/- code.ofParity: the function that it answers hands out the tries of a Parity's columns. -/
namespace Go.Proofs.YtiffkbmcikiioaaGreat
set_option maxRecDepth 100000
open Go.RowKit Go.Shelf M
attribute [local go_sem] Oper.semAt_some

/-- What a Parity's function holds. -/
structure ParS (w : World) (B b1 b2 b3 : Nat) (vD vL vG : Value) (D : List Int) (L : List C) (G : List ByteArray) : Prop where
  c1 : w.cell? ⟨b1, 0, none⟩ = some vD
  c2 : w.cell? ⟨b2, 0, none⟩ = some vL
  c3 : w.cell? ⟨b3, 0, none⟩ = some vG
  l1 : B ≤ b1 ∧ b1 < w.heap.size
  l2 : B ≤ b2 ∧ b2 < w.heap.size
  l3 : B ≤ b3 ∧ b3 < w.heap.size
  devs : OwnI B w vD D
  cols : OwnC B w vL L
  txts : Own w B vG G
theorem ParS.since {w w' : World} {B b1 b2 b3 : Nat} {vD vL vG : Value} {D : List Int} {L : List C} {G : List ByteArray} (h : ParS w B b1 b2 b3 vD vL vG D L G) (hs : Since B w w') : ParS w' B b1 b2 b3 vD vL vG D L G :=
  ⟨by rw [hs.cell (p := ⟨b1, 0, none⟩) h.l1.1 h.l1.2]; exact h.c1, by rw [hs.cell (p := ⟨b2, 0, none⟩) h.l2.1 h.l2.2]; exact h.c2, by rw [hs.cell (p := ⟨b3, 0, none⟩) h.l3.1 h.l3.2]; exact h.c3,
    ⟨h.l1.1, Nat.lt_of_lt_of_le h.l1.2 hs.size⟩, ⟨h.l2.1, Nat.lt_of_lt_of_le h.l2.2 hs.size⟩, ⟨h.l3.1, Nat.lt_of_lt_of_le h.l3.2 hs.size⟩, h.devs.since hs, h.cols.since hs, h.txts.since hs⟩
theorem OwnI.at_ {w : World} {B : Nat} {v : Value} {zs : List Int} (h : OwnI B w v zs) (h0 : 0 < zs.length) : ∃ g c, v = .slice (some ⟨g, 0, none⟩) zs.length c ∧ zs.length ≤ c ∧ B ≤ g ∧ g < w.heap.size ∧ ∀ j (h : j < zs.length), w.cell? ⟨g, j, none⟩ = some (.int .i64 zs[j]) := by
  have hv := h.v
  rcases h.2 with ⟨_, hn⟩ | ⟨g, cap, cur, rfl, hB, hb, hnc, _⟩
  · omega
  · refine ⟨g, cap, rfl, hnc, hB, (Array.getElem?_eq_some_iff.1 hb).1, fun j hj => ?_⟩
    obtain ⟨a, n, c, e, _, _, hc⟩ := hv
    cases e
    obtain ⟨g', e', _, hx⟩ := hc j hj
    cases e'
    exact hx
theorem mkB_small {l : List ByteArray} {N : Nat} (h : ∀ s ∈ l, s.size ≤ N) : (mkB l).size ≤ N := by
  unfold mkB
  split
  · rw [parB_size]
    unfold wide
    cases l with
    | nil => exact Nat.zero_le _
    | cons s r => exact h s List.mem_cons_self
  · exact Nat.zero_le _
theorem wth_small {L : List C} {G : List ByteArray} {d : Int} {k N : Nat} (hG : ∀ s ∈ G, s.size ≤ N) : ∀ s ∈ wth L G d k, s.size ≤ N := by
  intro s hs
  obtain ⟨j, _, rfl⟩ := List.mem_map.1 hs
  show (if devAt L j = d then agn L G j else G.getD j ⟨#[]⟩).size ≤ N
  split
  · unfold agn
    exact mkB_small fun s hs => rowG_mem hG s (List.mem_of_mem_eraseIdx hs)
  · rw [List.getD_eq_getElem?_getD]
    cases h : G[j]? with
    | none => exact Nat.zero_le _
    | some t => exact hG t (List.mem_of_getElem? h)

set_option maxHeartbeats 2000000 in
theorem par2_hands (n : Nat) (hn : 1 ≤ n) (w : World) (B b1 b2 b3 : Nat) (vD vL vG : Value) (D : List Int) (L : List C) (G : List ByteArray) (hM : ParS w B b1 b2 b3 vD vL vG D L G) (hD0 : 0 < D.length) (hD : D.length ≤ 1000) (h0L : 0 < L.length) (hlL : L.length ≤ 100) (hp2 : Paired L) (hG : G.length = L.length) (hs : ∀ s ∈ G, s.size ≤ 1000) :
    HandsS Fence.wide n Tryz.prog 97 #[.pointer (some ⟨b1, 0, none⟩), .pointer (some ⟨b2, 0, none⟩), .pointer (some ⟨b3, 0, none⟩)] encT (triesP L G D) B w := fun l J Jx W hW hJ hJx hJS hY h0 => by
  refine callsIn_of_wp Tryz.func97 rfl trivial ?_ rfl
  simp only [Tryz.ntmps97, List.size_toArray, List.length_cons, List.length_nil, Nat.reduceAdd, Nat.reduceSub, Array.replicate_succ, Array.replicate_zero, List.push_toArray, List.append_toArray, List.nil_append, List.cons_append]
  obtain ⟨f, hf⟩ : ∃ f : Int → Option (Int × ByteArray), f = fun d => tryOf d (wth L G d L.length) := ⟨_, rfl⟩
  have HFT : Hid (triesP L G D = D.filterMap f) := Lib.hid (by rw [hf]; rfl)
  have HF := Lib.hid hf
  obtain ⟨gD, cD, rfl, hcD, hgB, hgl, hcd⟩ := hM.devs.at_ hD0
  obtain ⟨m, hm⟩ : ∃ m, D.length = m := ⟨_, rfl⟩
  rw [hm] at hcD hD hD0
  have HM := Lib.hid hM
  rw [hm] at HM
  have HY := Lib.hid hY
  have HJ := Lib.hid hJ
  have HJS := Lib.hid hJS
  have HN := Lib.hid hm
  have HG := Lib.hid hG
  have HSZ := Lib.hid hs
  have HJ0 := Lib.hid h0
  have HL0 := Lib.hid h0L
  have HLL := Lib.hid hlL
  have HP2 := Lib.hid hp2
  have k0 := (HM.out.since hW).c1
  clear hY hJ hJx hJS hm hG hM h0 hs hf hcd h0L hlL hp2
  gi_wp2_with fail
  clear k0
  gi_loopw [11] (fun i11 wr => ∃ j : Nat, j ≤ m ∧ i11 = .int .i64 (j : Int) ∧ Hid (J (fmN f D j) wr) ∧ Hid (W.heap.size ≤ wr.heap.size)) (fun i _ => m - (intOf i).toNat)
  case atStart => exact ⟨0, Nat.zero_le _, rfl, Lib.hid (by rw [fm_zero]; exact HJ0.out), Lib.hid (Nat.le_refl _)⟩
  case round =>
    obtain ⟨j, hj, rfl, HJd, HWS⟩ := hrel
    by_cases hlt : j < m
    · have hjD : j < D.length := by rw [HN.out]; exact hlt
      have hK := HM.out.since (HJS.out _ _ HJd.out)
      have hsz := (HJS.out _ _ HJd.out).size
      have hb2 : b2 < wr.heap.size := hK.l2.2
      have hb3 : b3 < wr.heap.size := hK.l3.2
      obtain ⟨-, k2, k3, -, -, -, hdv, hcols, htx⟩ := hK
      obtain ⟨d, hd⟩ : ∃ d, D[j] = d := ⟨_, rfl⟩
      have kd : wr.cell? ⟨gD, j, none⟩ = some (.int .i64 d) := by
        obtain ⟨g', c', e, _, _, _, hc⟩ := hdv.at_ (by omega)
        rw [HN.out] at e
        cases e
        rw [← hd]
        exact hc j hjD
      obtain ⟨aL, nL, cL, rfl, -⟩ := hcols.v
      obtain ⟨aG, cG, eG, -⟩ := htx.txt
      generalize G.length = nG at eG
      subst eG
      have HWI := Lib.hid (without_any L G _ _ wr hcols.v htx.txt HG.out HL0.out HLL.out HP2.out (fun s hs => Nat.le_trans (HSZ.out s hs) (by decide)) d)
      have HFJ : Hid (∀ h : j < D.length, f D[j] = if holeL (wth L G d L.length) then none else some (d, joinB (wth L G d L.length))) := Lib.hid (fun _ => by rw [hd, HF.out]; rfl)
      have HJD := Lib.hid hjD
      clear hdv hcols htx hd hjD
      gi_wp2_with fail
      refine ⟨trivial, ?_⟩
      refine (callsIn_wide.2 HWI.out).mono ?_
      rintro e w1 ⟨v1, rfl, hT1, b1'⟩
      obtain ⟨a1, c1, e1, -⟩ := id hT1
      generalize (wth L G d L.length).length = n1 at e1
      subst e1
      have hl1 : (wth L G d L.length).length ≤ 100000 := Nat.le_trans (wth_len L G d _) (by have := HLL.out; omega)
      have hz1 : ∀ s ∈ wth L G d L.length, s.size ≤ 100000 := fun s hs => Nat.le_trans (wth_small HSZ.out s hs) (by decide)
      have hs1 := b1'.size
      have HJ1 := Lib.hid (HJ.out _ _ _ HJd.out (b1'.mono HWS.out))
      have HWS1 : Hid (W.heap.size ≤ w1.heap.size) := Lib.hid (Nat.le_trans HWS.out hs1)
      clear b1' k2 k3 kd
      cases hh : holeL (wth L G d L.length) with
      | true =>
        have HJN := Lib.hid (joined_no _ _ w1 hT1 hl1 hz1 hh)
        have HNX := Lib.hid (fm_none f D HJD.out (by rw [HFJ.out, hh]; rfl))
        clear hh hT1 hl1 hz1
        gi_wp2_with fail
        refine ⟨trivial, ?_⟩
        refine (callsIn_wide.2 HJN.out).mono ?_
        rintro e w2 ⟨rfl, b2'⟩
        have HJ2 := Lib.hid (HJ.out _ _ _ HJ1.out (b2'.mono HWS1.out))
        have hs2 := b2'.size
        clear b2'
        gi_wp2_with fail
        refine ⟨fun f hf => (by cases hf), ?_⟩
        gi_wp2
        go_roundw
        case rel => exact ⟨j + 1, hlt, by go_num, Lib.hid (by rw [HNX.out]; exact HJ2.out), Lib.hid (Nat.le_trans HWS1.out hs2)⟩
        case measure => simp [intOf]; omega
      | false =>
        have HJN := Lib.hid (joined_yes _ _ w1 hT1 hl1 hz1 hh)
        obtain ⟨hat, hne⟩ := fm_some f D (x := (d, joinB (wth L G d L.length))) HJD.out (by rw [HFJ.out, hh]; rfl)
        rw [← HFT.out] at hat
        have HNE := Lib.hid hne
        have HAT := Lib.hid hat
        clear hh hT1 hl1 hz1 hne hat
        generalize joinB (wth L G d L.length) = tx at HAT HJN
        gi_wp2_with fail
        refine ⟨trivial, ?_⟩
        refine (callsIn_wide.2 HJN.out).mono ?_
        rintro e w2 ⟨rfl, b2'⟩
        have HJ2 := Lib.hid (HJ.out _ _ _ HJ1.out (b2'.mono HWS1.out))
        have hs2 := b2'.size
        clear b2'
        obtain ⟨fn, tmps, assign, body, hy, hR⟩ := HY.out _ _ w2 HAT.out HJ2.out
        have HRR := Lib.hid hR
        clear hR
        unfold encT at hy
        gi_wp2_with fail
        refine HRR.out.mono ?_
        rintro e w4 (⟨rfl, hJ4, hs4⟩ | ⟨rfl, hx4⟩)
        · have HJ4 := Lib.hid hJ4
          have HS4 := Lib.hid hs4.size
          clear hJ4 hs4
          gi_wp2
          go_roundw
          case rel => exact ⟨j + 1, hlt, by go_num, Lib.hid (by rw [HNE.out]; exact HJ4.out), Lib.hid (Nat.le_trans HWS1.out (Nat.le_trans hs2 HS4.out))⟩
          case measure => simp [intOf]; omega
        · gi_wp2
          refine bodyPost_ret (results_none rfl _ _ _) rfl ?_
          exact ⟨⟨_, rfl⟩, .inr ⟨_, by rw [← HNE.out, HFT.out]; exact fm_le _ _ _, hx4⟩⟩
    · obtain rfl : j = m := by omega
      gi_wp2
      go_end0
      refine ⟨⟨_, rfl⟩, .inl ?_⟩
      have h1 := HJd.out
      rw [← HN.out, fm_all, ← HFT.out] at h1
      exact h1
end Go.Proofs.YtiffkbmcikiioaaGreat
