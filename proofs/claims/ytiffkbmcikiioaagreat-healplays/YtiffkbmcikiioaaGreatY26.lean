/-
  code.fitting, code.Fits: columns that were read.
  code.without: the data columns, a device's made again.
  code.ofMirror, code.ofParity, code.Tries: what is answered is a function that hands out tries.
-/
import Derived.Test.YtiffkbmcikiioaaGreatY11
import Derived.Test.YtiffkbmcikiioaaGreatY13
import Derived.Test.YtiffkbmcikiioaaGreatY21
import Derived.Test.YtiffkbmcikiioaaGreatY17
import Derived.Test.YtiffkbmcikiioaaGreatY08
import Derived.Test.YtiffkbmcikiioaaGreatY14
import Derived.Test.YtiffkbmcikiioaaGreatY15

/- code.fitting, code.Fits: columns that were read. -/
namespace Go.Proofs.YtiffkbmcikiioaaGreat
set_option maxRecDepth 100000
open Go.RowKit M

/-- A column's text, or nothing. -/
def secT (s : ByteArray) : Bool := s.size == 0 || s.size == 64
def fitL (G : List ByteArray) : Bool := G.all secT
theorem empty_txt (s : ByteArray) : s.toList.isEmpty = (s.size == 0) := by
  rw [ByteArray.toList_eq, sizeL]
  cases s.data.toList <;> simp

theorem fitting1_any (s : ByteArray) (w : World) (b : Bool) (hb : secT s = !b) :
    Calls Tryz.prog 90 #[.string s] w fun e w' => e = .returned (.bool b) ∧ w = w' := by
  have hq := empty_txt s
  unfold secT at hb
  obtain ⟨n, hn⟩ : ∃ n, s.size = n := ⟨_, rfl⟩
  rw [hn] at hb hq
  by_cases h0 : n = 0
  · subst h0
    obtain rfl : b = false := by cases b <;> simp at hb ⊢
    have hq' : s.toList.isEmpty = true := by rw [hq]; rfl
    clear hq hb
    go_enter Tryz.func90, Tryz.ntmps90
    go_wp2
    go_ret
    exact ⟨rfl, rfl⟩
  · have hq' : s.toList.isEmpty = false := by rw [hq]; simp [h0]
    have hb' : ((n : Int) == 64) = !b := by
      rw [← hb]
      have : (n == 0) = false := by simp [h0]
      rw [this, Bool.false_or]
      by_cases h : n = 64
      · subst h; rfl
      · rw [show (n == 64) = false by simp [h]]; simp; omega
    clear hq hb
    cases b with
    | true =>
      have hc : ((n : Int) != 64) = true := by unfold bne; rw [hb']; rfl
      clear hb'
      go_enter Tryz.func90, Tryz.ntmps90
      go_wp2
      go_ret
      exact ⟨rfl, rfl⟩
    | false =>
      have hc : ((n : Int) != 64) = false := by unfold bne; rw [hb']; rfl
      clear hb'
      go_enter Tryz.func90, Tryz.ntmps90
      go_wp2
      go_ret
      exact ⟨rfl, rfl⟩

def fitTo (l : List ByteArray) (k : Nat) : Prop := ∀ j (h : j < l.length), j < k → secT l[j] = true
theorem fitTo_all {l : List ByteArray} (h : fitTo l l.length) : fitL l = true := by
  unfold fitL
  rw [List.all_eq_true]
  intro s hs
  obtain ⟨j, hj, rfl⟩ := List.getElem_of_mem hs
  exact h j hj hj
theorem fit_not {l : List ByteArray} {k : Nat} (hk : k < l.length) (h : secT l[k] = false) : fitL l = false := by
  unfold fitL
  rw [List.all_eq_false]
  exact ⟨_, List.getElem_mem hk, by simp [h]⟩

set_option maxHeartbeats 1000000 in
theorem findex_any (l : List ByteArray) (v : Value) (w : World) (h : Txt w v l) (hm : l.length ≤ 100000) :
    Calls Tryz.prog 125 #[v, .func (.func 90) #[] #[]] w fun e w' =>
      ∃ k : Int, e = .returned (.int .i64 k) ∧ (fitL l = true → k = -1) ∧ (fitL l = false → 0 ≤ k) ∧ w = w' := by
  obtain ⟨a, c, rfl, hcc, hj⟩ := h
  have HJ := Lib.hid hj
  clear hj
  generalize hn : l.length = n at hm hcc
  have HN := Lib.hid hn
  clear hn
  go_enter Tryz.func125, Tryz.ntmps125
  go_wp2_with fail
  go_loop [8] (fun i => ∃ k : Nat, k ≤ n ∧ i = .int .i64 k ∧ Hid (fitTo l k)) (fun i => n - (intOf i).toNat)
  case atStart => exact ⟨0, Nat.zero_le _, rfl, Lib.hid fun j _ hj => absurd hj (Nat.not_lt_zero _)⟩
  case round =>
    obtain ⟨k, hk, rfl, H⟩ := hrel
    by_cases hlt : k < n
    · have hlt' : k < l.length := by rw [HN.out]; exact hlt
      obtain ⟨g, o, rfl, hg, hck⟩ := HJ.out k hlt'
      generalize hs : l[k] = s at hck
      have HS : Hid (∃ h : k < l.length, l[k] = s) := Lib.hid ⟨hlt', hs⟩
      clear hs hlt'
      cases hz : secT s with
      | true =>
        have HZ := Lib.hid hz
        clear hz
        go_wp2_with fail
        refine (fitting1_any s _ false HZ.out).mono ?_
        rintro e w1 ⟨rfl, rfl⟩
        go_wp2
        go_round
        case rel =>
          refine ⟨k + 1, by omega, by go_num, Lib.hid fun j hj hjk => ?_⟩
          by_cases e : j = k
          · subst e
            obtain ⟨_, hs⟩ := HS.out
            rw [hs]; exact HZ.out
          · exact H.out j hj (by omega)
        case measure => simp [intOf]; omega
      | false =>
        have HZ := Lib.hid hz
        clear hz
        go_wp2_with fail
        refine (fitting1_any s _ true HZ.out).mono ?_
        rintro e w1 ⟨rfl, rfl⟩
        go_wp2
        go_ret
        have hno : fitL l = false := by
          obtain ⟨hk', hs⟩ := HS.out
          exact fit_not hk' (by rw [hs]; exact HZ.out)
        exact ⟨k, rfl, fun h => by (rw [hno] at h; cases h), fun _ => by omega, rfl⟩
    · go_wp2
      go_ret
      have hyes : fitL l = true := fitTo_all (by
        obtain rfl : k = n := by omega
        rw [HN.out]; exact H.out)
      exact ⟨-1, rfl, fun _ => rfl, fun h => by (rw [hyes] at h; cases h), rfl⟩
theorem fcontains_any (l : List ByteArray) (v : Value) (w : World) (h : Txt w v l) (hm : l.length ≤ 100000) (b : Bool) (hb : fitL l = b) :
    Calls Tryz.prog 89 #[v, .func (.func 90) #[] #[]] w fun e w' => e = .returned (.bool (!b)) ∧ w = w' := by
  have HI := Lib.hid (findex_any l v w h hm)
  have HB := Lib.hid hb
  clear h hm hb
  go_enter Tryz.func89, Tryz.ntmps89
  go_wp2_with fail
  refine HI.out.mono ?_
  rintro e w1 ⟨k, rfl, h1, h2, rfl⟩
  rw [HB.out] at h1 h2
  cases b with
  | true =>
    obtain rfl := h1 rfl
    go_wp2
    go_ret
    exact ⟨rfl, rfl⟩
  | false =>
    have hk := h2 rfl
    clear h1 h2
    go_wp2
    go_ret
    exact ⟨rfl, rfl⟩

/-- The columns of a block that may be there. -/
def colsI (l : List (Int × Int)) (k t z : Int) : List C := colsOf l k.toNat t.toNat z.toNat
/-- Do columns that were read fit? -/
def fitsL (l : List (Int × Int)) (sc k t z : Int) (G : List ByteArray) : Bool := mayL l sc k t z && decide ((colsI l k t z).length = G.length) && fitL G
/-- What fitting answers. -/
def FitB (l : List (Int × Int)) (sc k t z : Int) (G : List ByteArray) (B : Nat) (w : World) (v : Value) (ok : Bool) : Prop :=
  ok = fitsL l sc k t z G ∧ (ok = true → ∃ k' t' z' : Nat, k = k' ∧ t = t' ∧ z = z' ∧ Blk l sc k' t' z' ∧ (colsOf l k' t' z').length = G.length ∧ fitL G = true ∧ OwnC B w v (colsOf l k' t' z')) ∧ ∃ a n c, v = .slice a n c

set_option maxHeartbeats 1000000 in
theorem fitting_any (l : List (Int × Int)) (sc : Int) (v : Value) (w : World) (h : Meas w v l sc) (k t z : Int) (hk : I64 k) (ht : I64 t) (hz : I64 z) (G : List ByteArray) (vG : Value) (hG : Txt w vG G) (hm : G.length ≤ 100000) :
    Calls Tryz.prog 66 #[v, .agg #[.int .i64 k, .int .i64 t], .int .i64 z, vG] w fun e w' => ∃ v' ok, e = .returned (.tuple #[v', .bool ok]) ∧ FitB l sc k t z G w.heap.size w' v' ok ∧ Below w.heap.size w w' := by
  have K1 := h
  obtain ⟨a, n, c, rfl, hg⟩ := id h
  replace K1 := Lib.hid (HeldP.start k t K1)
  have HC := Lib.hid (of_any l sc _ _ K1.out.h.m k t z hk ht hz)
  have HG := Lib.hid hG
  obtain ⟨aG, cG, rfl, hcG, hjG⟩ := hG
  generalize hn : G.length = nG at hcG hm HG
  have HN := Lib.hid hn
  clear h hg hk ht hz hjG hn
  go_enter Tryz.func66, Tryz.ntmps66
  go_wp2_with fail
  refine HC.out.mono ?_
  rintro e w1 ⟨v1, er, rfl, ho, b1⟩
  have HB := Lib.hid (next K1.out.h.below b1)
  clear b1
  rcases ho with ⟨hno, rfl, rfl⟩ | ⟨k', t', z', rfl, rfl, rfl, hB, rfl, hO⟩
  · have HF : Hid (fitsL l sc k t z G = false) := Lib.hid (by unfold fitsL; rw [hno]; rfl)
    clear hno
    go_wp2
    go_ret2
    exact ⟨_, _, rfl, ⟨HF.out.symm, fun h => (by cases h), _, _, _, rfl⟩, HB.out⟩
  · obtain ⟨g, c1, rfl, hc1, hg1, hA⟩ := OwnC.some hO hB.laid.pos
    have hlen := hB.laid.few
    have HO := Lib.hid hO
    have HBB := Lib.hid hB
    clear hA hO
    have HFF : Hid (fitsL l sc k' t' z' G = (decide ((colsOf l k' t' z').length = G.length) && fitL G)) := Lib.hid (by
      unfold fitsL
      rw [mayL_iff.2 ⟨k', t', z', rfl, rfl, rfl, hB⟩]
      rfl)
    clear hB
    obtain ⟨m, hmm⟩ : ∃ m, (colsOf l k' t' z').length = m := ⟨_, rfl⟩
    rw [hmm] at hlen hc1 HO HFF ⊢
    have HM := Lib.hid hmm
    clear hmm
    by_cases hl : m = nG
    · subst hl
      cases hfit : fitL G with
      | true =>
        have HCF := Lib.hid (fcontains_any G _ w1 (HG.out.below HB.out) (by rw [HN.out]; exact hm) true hfit)
        have HF : Hid (fitsL l sc k' t' z' G = true) := Lib.hid (by rw [HFF.out, HN.out, hfit]; simp)
        have HFT := Lib.hid hfit
        clear hfit
        go_wp2_with fail
        refine HCF.out.mono ?_
        rintro e w2 ⟨rfl, rfl⟩
        go_wp2
        go_ret2
        exact ⟨_, _, rfl, ⟨HF.out.symm, fun _ => ⟨k', t', z', rfl, rfl, rfl, HBB.out, by rw [HM.out, HN.out], HFT.out, HO.out.lower K1.out.h.below.size⟩, _, _, _, rfl⟩, HB.out⟩
      | false =>
        have HCF := Lib.hid (fcontains_any G _ w1 (HG.out.below HB.out) (by rw [HN.out]; exact hm) false hfit)
        have HF : Hid (fitsL l sc k' t' z' G = false) := Lib.hid (by rw [HFF.out, HN.out, hfit]; simp)
        clear hfit
        go_wp2_with fail
        refine HCF.out.mono ?_
        rintro e w2 ⟨rfl, rfl⟩
        go_wp2
        go_ret2
        exact ⟨_, _, rfl, ⟨HF.out.symm, fun h => (by cases h), _, _, _, rfl⟩, HB.out⟩
    · have HF : Hid (fitsL l sc k' t' z' G = false) := Lib.hid (by rw [HFF.out, HN.out]; simp [hl])
      have hl' : ((m : Int) == (nG : Int)) = false := by simp; omega
      have hl2 : ((m : Int) != (nG : Int)) = true := by unfold bne; rw [hl']; rfl
      clear hl
      go_wp2
      go_ret2
      exact ⟨_, _, rfl, ⟨HF.out.symm, fun h => (by cases h), _, _, _, rfl⟩, HB.out⟩

theorem fits_any (l : List (Int × Int)) (sc : Int) (v : Value) (w : World) (h : Meas w v l sc) (k t z : Int) (hk : I64 k) (ht : I64 t) (hz : I64 z) (G : List ByteArray) (vG : Value) (hG : Txt w vG G) (hm : G.length ≤ 100000) :
    Calls Tryz.prog 104 #[v, .agg #[.int .i64 k, .int .i64 t], .int .i64 z, vG] w fun e w' => e = .returned (.bool (fitsL l sc k t z G)) ∧ Below w.heap.size w w' := by
  have K1 := h
  obtain ⟨a, n, c, rfl, hg⟩ := id h
  replace K1 := Lib.hid (HeldP.start k t K1)
  have HC := Lib.hid (fitting_any l sc _ _ K1.out.h.m k t z hk ht hz G vG (hG.below K1.out.h.below) hm)
  clear h hg hk ht hz hG hm
  go_enter Tryz.func104, Tryz.ntmps104
  go_wp2_with fail
  refine HC.out.mono ?_
  rintro e w1 ⟨v1, ok, rfl, ⟨rfl, _, _, _, _, rfl⟩, b1⟩
  go_wp2
  go_ret
  exact ⟨rfl, next K1.out.h.below b1⟩
end Go.Proofs.YtiffkbmcikiioaaGreat

/- code.without: the data columns, a device's made again. -/
namespace Go.Proofs.YtiffkbmcikiioaaGreat
set_option maxRecDepth 100000
open Go.RowKit M

/-- Each data column has another one in its row. -/
def Paired (L : List C) : Prop := ∀ a, a < L.length → parAt L a = false → 2 ≤ (idx (fun j => rowAt L j == rowAt L a) L.length).length

set_option maxHeartbeats 2000000 in
theorem without_any (L : List C) (G : List ByteArray) (vL vG : Value) (w : World) (hV : ColsV w vL L) (hG : Txt w vG G) (hGl : G.length = L.length) (h0 : 0 < L.length) (hl : L.length ≤ 100) (h2 : Paired L) (hz : ∀ s ∈ G, s.size ≤ 100000) (d : Int) :
    Calls Tryz.prog 98 #[vL, vG, .int .i64 d] w fun e w' => ∃ v', e = .returned v' ∧ Txt w' v' (wth L G d L.length) ∧ Below w.heap.size w w' := by
  have HV := Lib.hid hV
  have HT := Lib.hid hG
  obtain ⟨g, n, c, rfl, hn, hg, hC⟩ := hV.some (by omega)
  obtain ⟨gG, oG, cG, rfl, hcG, hgG, hCG⟩ := hG.isSome (by omega)
  rw [hGl, hn] at hcG HT ⊢
  have HL := Lib.hid hl
  rw [hn] at hl h0
  have HC := Lib.hid hC
  have HCG := Lib.hid hCG
  have HN := Lib.hid hn
  have HGL := Lib.hid hGl
  have HGN : Hid (G.length = n) := Lib.hid (by rw [hGl, hn])
  have H2 := Lib.hid h2
  have HZ := Lib.hid hz
  clear hV hG hGl hn hC hCG h2 hz
  go_enter Tryz.func98, Tryz.ntmps98
  go_wp2_with fail
  go_loopw [7, 12] (fun t7 i12 wr => ∃ (j m : Nat) (b : Option Addr) (cc : Nat), j ≤ n ∧ m ≤ j ∧ i12 = .int .i64 (j : Int) ∧ t7 = .slice b m cc ∧ Hid (Own wr w.heap.size (.slice b m cc) (wth L G d j)) ∧ Hid ((wth L G d j).length = m) ∧ Hid (Below w.heap.size w wr)) (fun _ i _ => n - (intOf i).toNat)
  case atStart => exact ⟨0, 0, none, 0, Nat.zero_le _, Nat.le_refl _, rfl, rfl, Lib.hid (World.ownsRow_nil _ _ _ _), Lib.hid rfl, Lib.hid (Below.refl _ _)⟩
  case round =>
    obtain ⟨j, m, b, cc, hj, hmj, rfl, rfl, HO, HM, HW⟩ := hrel
    have hsz := HW.out.size
    by_cases hjn : j < n
    · have hjL : j < L.length := by rw [HN.out]; exact hjn
      have hjG : j < G.length := by rw [HGN.out]; exact hjn
      obtain ⟨x, hx⟩ : ∃ x, L[j] = x := ⟨_, rfl⟩
      obtain ⟨y, hy⟩ : ∃ y, G[j] = y := ⟨_, rfl⟩
      have hCx := (HC.out j hjL).below hg HW.out
      rw [hx] at hCx
      obtain ⟨e0, e1, e2, e3⟩ := hCx
      have hyc := (HW.out.cell (p := ⟨gG, oG + j, none⟩) hgG).trans (HCG.out j hjG)
      rw [hy] at hyc
      have HPX : Hid (parAt L j = x.par) := Lib.hid (by rw [parAt_eq hjL, hx])
      have HDX : Hid (devAt L j = x.dev) := Lib.hid (by rw [devAt_eq hjL, hx])
      have HY : Hid (G.getD j ⟨#[]⟩ = y) := Lib.hid (by rw [List.getD_eq_getElem?_getD, List.getElem?_eq_getElem hjG, hy]; rfl)
      have HOb := Lib.hid (HO.out.below (boxed wr (.cells #[.int .i64 x.dev, .int .i64 x.at_, .bool x.par, .int .i64 x.row] 75)))
      have hlw : g < wr.heap.size := Nat.lt_of_lt_of_le hg hsz
      have hlG : gG < wr.heap.size := Nat.lt_of_lt_of_le hgG hsz
      have HJL := Lib.hid hjL
      clear hx hy hjL hjG
      cases hp : x.par with
      | true =>
        rw [hp] at e2 HOb
        have HNX : Hid (wth L G d (j + 1) = wth L G d j) := Lib.hid (wth_par (by rw [HPX.out]; exact hp))
        clear hp HPX
        go_wp2
        go_roundw
        case rel => exact ⟨j + 1, m, b, cc, by omega, by omega, by go_num, rfl, Lib.hid (by rw [HNX.out]; exact HOb.out), Lib.hid (by rw [HNX.out]; exact HM.out), Lib.hid (grows_alloc HW.out _)⟩
        case measure => simp [intOf]; omega
      | false =>
        rw [hp] at e2 HOb
        have HPF : Hid (parAt L j = false) := Lib.hid (by rw [HPX.out]; exact hp)
        clear hp HPX
        by_cases hd : x.dev = d
        · have hdb : (x.dev == d) = true := by simp [hd]
          obtain ⟨q, hq⟩ : ∃ q, agn L G j = q := ⟨_, rfl⟩
          have HNX : Hid (wth L G d (j + 1) = wth L G d j ++ [q]) := Lib.hid (by rw [wth_data HPF.out, HDX.out, if_pos hd, hq])
          have HM1 : Hid ((wth L G d j ++ [q]).length = m + 1) := Lib.hid (by rw [List.length_append, HM.out]; rfl)
          have HQ := Lib.hid hq
          clear hd hq
          go_wp2_with fail
          have bw : Below wr.heap.size wr (wr.alloc (.cells #[.int .i64 x.dev, .int .i64 x.at_, .bool false, .int .i64 x.row] 75)) := boxed _ _
          refine (cagain_any L G _ _ _ (HV.out.next (next HW.out bw)) (HT.out.below (next HW.out bw)) HGL.out HL.out j HJL.out (by unfold rowG; rw [List.length_map]; exact H2.out j HJL.out HPF.out) HZ.out).mono ?_
          rintro e w5 ⟨rfl, b5⟩
          rw [HQ.out]
          have hs5 := b5.size
          rw [World.size_alloc] at hs5
          have HO5 := Lib.hid (HOb.out.below b5)
          have HB5 := Lib.hid (next (next HW.out bw) b5)
          clear b5 bw
          go_wp2_with (at_builtin; refine wpList_append_txt _ rfl _ _ rfl w.heap.size _ _ _ [q] _ (m + 1) rfl rfl rfl HM1.out (HO5.out.alloc _) (txt_at _ q _ (by simp)) (by simp; omega) (by omega) ?_; intro b4 c4 w4 hO4 b04 s4)
          go_roundw
          case rel => exact ⟨j + 1, m + 1, b4, c4, by omega, by omega, by go_num, rfl, Lib.hid (by rw [HNX.out]; exact hO4), Lib.hid (by rw [HNX.out]; exact HM1.out), Lib.hid ((grows_alloc HB5.out _).trans b04)⟩
          case measure => simp [intOf]; omega
        · have hdb : (x.dev == d) = false := by simp [hd]
          have HNX : Hid (wth L G d (j + 1) = wth L G d j ++ [y]) := Lib.hid (by rw [wth_data HPF.out, HDX.out, if_neg hd, HY.out])
          have HM1 : Hid ((wth L G d j ++ [y]).length = m + 1) := Lib.hid (by rw [List.length_append, HM.out]; rfl)
          clear hd
          go_wp2_with (at_builtin; refine wpList_append_txt _ rfl _ _ rfl w.heap.size _ _ _ [y] _ (m + 1) rfl rfl rfl HM1.out (HOb.out.alloc _) (txt_at _ y _ (by simp)) (by simp; omega) (by omega) ?_; intro b4 c4 w4 hO4 b04 s4)
          go_roundw
          case rel => exact ⟨j + 1, m + 1, b4, c4, by omega, by omega, by go_num, rfl, Lib.hid (by rw [HNX.out]; exact hO4), Lib.hid (by rw [HNX.out]; exact HM1.out), Lib.hid ((grows_alloc (grows_alloc HW.out _) _).trans b04)⟩
          case measure => simp [intOf]; omega
    · obtain rfl : j = n := by omega
      go_wp2
      go_ret
      exact ⟨_, rfl, HO.out.txt, HW.out⟩
end Go.Proofs.YtiffkbmcikiioaaGreat

/- code.ofMirror, code.ofParity, code.Tries: what is answered is a function that hands out tries. -/
namespace Go.Proofs.YtiffkbmcikiioaaGreat
set_option maxRecDepth 100000
open Go.RowKit M

theorem below_alloc2 (w : World) (o : Obj) : Below w.heap.size w (w.alloc o) := boxed w o
theorem OwnC.since {w w' : World} {B : Nat} {v : Value} {l : List C} (h : OwnC B w v l) (hs : Since B w w') : OwnC B w' v l := by
  refine ⟨h.1, ?_⟩
  rcases h.2 with hn | ⟨g, cap, cur, rfl, hB, hg, rest⟩
  · exact .inl hn
  · exact .inr ⟨g, cap, cur, rfl, hB, by rw [hs.same g hB (Array.getElem?_eq_some_iff.1 hg).1]; exact hg, rest⟩
theorem Own.since {w w' : World} {B : Nat} {v : Value} {l : List ByteArray} (h : Own w B v l) (hs : Since B w w') : Own w' B v l := by
  refine ⟨h.1, ?_⟩
  rcases h.2 with hn | ⟨g, cap, cur, rfl, hB, hg, rest⟩
  · exact .inl hn
  · exact .inr ⟨g, cap, cur, rfl, hB, by rw [hs.same g hB (Array.getElem?_eq_some_iff.1 hg).1]; exact hg, rest⟩
theorem OwnI.since {w w' : World} {B : Nat} {v : Value} {l : List Int} (h : OwnI B w v l) (hs : Since B w w') : OwnI B w' v l := by
  refine ⟨h.1, ?_⟩
  rcases h.2 with hn | ⟨g, cap, cur, rfl, hB, hg, rest⟩
  · exact .inl hn
  · exact .inr ⟨g, cap, cur, rfl, hB, by rw [hs.same g hB (Array.getElem?_eq_some_iff.1 hg).1]; exact hg, rest⟩

theorem txt_nil (w : World) (a : Addr) (n c : Nat) : (binOp .eql 60 (.slice (some a) n c) (.slice none 0 0)).run Tryz.prog w = .ok (.bool false) w := by kernel_rfl
theorem col_nil (w : World) (a : Addr) (n c : Nat) : (binOp .eql 66 (.slice (some a) n c) (.slice none 0 0)).run Tryz.prog w = .ok (.bool false) w := by kernel_rfl
theorem clone_txt (l : List ByteArray) (v : Value) (w : World) (h : Txt w v l) (h0 : 0 < l.length) (hm : l.length ≤ 100000) :
    Calls Tryz.prog 68 #[v] w fun e w' => ∃ v', e = .returned v' ∧ Own w' w.heap.size v' l ∧ Below w.heap.size w w' := by
  have HT := Lib.hid h
  obtain ⟨g, o, c, rfl, hc, hg, hj⟩ := h.isSome h0
  generalize hn : l.length = n at h0 hm hc HT
  have HN := Lib.hid hn
  have hq := txt_nil w ⟨g, o, none⟩ n c
  clear h hj hn
  go_enter Tryz.func68, Tryz.ntmps68
  go_wp2_with (at_builtin; refine wpList_append_txt _ rfl _ _ rfl w.heap.size _ _ [] l _ n rfl rfl rfl HN.out (own_none w _ (Nat.le_refl _)) (HT.out.alloc _) (by simp) (by omega) ?_; intro b4 c4 w4 hO4 b04 s4)
  go_wp2
  go_ret
  exact ⟨_, rfl, hO4, (boxed w _).trans b04⟩

/-- append(v, m...), columns. -/
theorem wpList_append_cols {ops : Array Oper} {rest : List Oper} {o : Oper} {a : Act} {Q : Exit → Act → World → Prop} (w : World) (hgd : o.guard = none) (s x : Operand)
    (ho : o.op = .call { callee := .builtin .append, args := #[s, x], argTypes := #[66, 66] }) (B : Nat) (v : Value) (l m : List C) (g n c' : Nat) (hs : a.eval s = v) (hx : a.eval x = .slice (some ⟨g, 0, none⟩) n c')
    (hv : OwnC B w v l) (hm : m.length = n) (hc : ∀ j (h : j < m.length), IsC w g (j * 4) m[j]) (hB : B ≤ w.heap.size) (hN : l.length + n ≤ 100000)
    (h : ∀ v' w', OwnC B w' v' (l ++ m) → Below B w w' → w.heap.size ≤ w'.heap.size → wpList Tryz.prog ops Q rest (a.put o.dst v') w') : wpList Tryz.prog ops Q (o :: rest) a w := by
  obtain ⟨i, hi, hz, hsz, hb⟩ := info_col
  subst hm
  refine wpList_append_own_at w hgd s x _ ho B 75 i _ 4 32 Tryz.underlying66 hi hz hsz hb rfl (by decide) v l.length (flatC l) hs hv ⟨g, 0, none⟩ m.length c' (flatC m) hx (flatC_len m) (fun j u hj => ?_) (fun u hu => ?_) (by unfold maxLen; omega) (by omega) hB fun v' w' h1 h2 _ _ => ?_
  · have hlt : j < m.length * 4 := by rw [← flatC_len]; exact (List.getElem?_eq_some_iff.1 hj).1
    have e := flatC_at m (j / 4) (by omega) (j % 4) (Nat.mod_lt _ (by decide))
    have e2 := (hc (j / 4) (by omega)).get (j % 4) (Nat.mod_lt _ (by decide))
    rw [show j / 4 * 4 + j % 4 = j by omega] at e e2
    rw [Go.WideShapes.add_plain, Nat.zero_add, e2, ← e, hj]
  · exact flatC_one m u hu
  · refine h v' w' ?_ ((Below.refl B w).grown h2 hB fun k hk => (World.ownsRow.lt hv k hk).1) h2.size
    unfold OwnC
    rw [List.length_append, flatC_app]
    exact h1
theorem own_noC (w : World) (B : Nat) (hB : B ≤ w.heap.size) : OwnC B (w.alloc (.cells #[] 75)) (.slice (some ⟨w.heap.size, 0, none⟩) 0 0) [] := by
  have := World.ownsRow_lit (base := B) (e := 75) (size := 4) w #[] 0 hB (by decide) (by simp)
  simpa [OwnC, flatC] using this
theorem clone_col (l : List C) (v : Value) (w : World) (h : ColsV w v l) (h0 : 0 < l.length) (hm : l.length ≤ 1000) :
    Calls Tryz.prog 94 #[v] w fun e w' => ∃ v', e = .returned v' ∧ OwnC w.heap.size w' v' l ∧ Below w.heap.size w w' := by
  obtain ⟨g, n, c, rfl, hn, hg, hj⟩ := h.some h0
  have HJ := Lib.hid hj
  have HN := Lib.hid hn
  rw [hn] at h0 hm
  have hq := col_nil w ⟨g, 0, none⟩ n c
  clear h hj hn
  go_enter Tryz.func94, Tryz.ntmps94
  go_wp2_with (at_builtin; refine wpList_append_cols _ rfl _ _ rfl w.heap.size _ [] l g n c rfl rfl (own_noC w _ (Nat.le_refl _)) HN.out (fun j hj => (HJ.out j hj).below hg (boxed w _)) (by simp) (by simp; omega) ?_; intro v4 w4 hO4 b04 s4)
  go_wp2
  go_ret
  exact ⟨_, rfl, hO4, (boxed w _).trans b04⟩
end Go.Proofs.YtiffkbmcikiioaaGreat
