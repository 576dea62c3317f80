/-
  The walk of polderlaw04.DevPlays.
-/
import Derived.Test.YtmkheikllbjcbaaPlayWrite
import Derived.Test.YtmkheikllbjcbaaPlayRead
import Derived.Test.YtmkheikllbjcbaaPlayFlush
import Derived.Test.YtmkheikllbjcbaaPlayCrash
import Derived.Test.YtmkheikllbjcbaaPlaySpoil
import Derived.Test.YtmkheikllbjcbaaPlayLose
import Derived.Test.YtmkheikllbjcbaaPlayFresh
import Derived.Test.YtmkheikllbjcbaaPlayFuse
import Derived.Deep.DeepCutAuto
import Derived.Deep.CutBlock
namespace Go.Proofs.Ytmkheikllbjcbaa
open Go.RowKit Go.Maps

/-- The same post, but no panic. -/
def noPanic (Q : Exit → Act → World → Prop) : Exit → Act → World → Prop := fun e a w =>
  match e with
  | .panic _ => False
  | e => Q e a w
theorem wp_noPanic {P : Program} {s : Code} {K : Act → World → Prop} {Q : Exit → Act → World → Prop} {a : Act} {w : World} (h : s.wp P (Exit.then K (noPanic Q)) a w) : s.wp P (Exit.then K Q) a w := by
  refine wp_mono h ?_
  intro e a' w' hq
  cases e with
  | normal => exact hq
  | exit id => exact hq
  | goto l => exact hq
  | ret => exact hq
  | panic ch => exact False.elim hq
  | outgrown => exact hq

set_option maxRecDepth 100000 in
set_option maxHeartbeats 40000000 in
theorem walk_DevPlays (a0 : Int) (a : Option Addr) (len cap : Nat) (w : World) (_w0 : (Lit.int .i64 a0).wf = true) (hr : ∃ l, Acts w.heap.size w a len l) :
    Calls Try.prog 5 #[.int .i64 a0, .slice a len cap] w fun e w' => e = .returned (.bool true) ∧ Below w.heap.size w w' := by
  obtain ⟨l, hA⟩ := hr
  clear _w0
  have hmax := hA.1
  unfold maxLen at hmax
  have HA := Lib.hid hA
  clear hA
  go_enter Try.func5, Try.ntmps5
  go_wp2_with fail
  (with_reducible refine (awake_any _).mono ?_)
  rintro e w1 ⟨rfl, b1⟩
  go_wp2_with fail
  (with_reducible refine (few_any w.heap.size a len cap l _ (HA.out.below b1)).mono ?_)
  rintro e w2 ⟨x, rfl, hx, rfl⟩
  cases x with
  | false =>
    go_wp2_with fail
    (with_reducible refine (awake_any _).mono ?_)
    rintro e w2 ⟨rfl, b2⟩
    go_wp2
    go_ret
    exact ⟨rfl, early b1 b1.size b2⟩
  | true =>
  have h80 := hx rfl
  clear hx
  by_cases hmid : 60 < a0 ∧ a0 ≤ 4096
  · obtain ⟨m1, m2⟩ := hmid
    have d1 : decide ((60 : Int) < a0) = true := by simpa using m1
    have d2 : decide (a0 ≤ (4096 : Int)) = true := by simpa using m2
    go_wp2_with fail
    (with_reducible refine (awake_any _).mono ?_)
    rintro e w2 ⟨rfl, b2⟩
    go_wp2
    go_ret
    exact ⟨rfl, early b1 b1.size b2⟩
  by_cases hbad : a0 < 1 ∨ 4096 < a0
  · have hN := fun w => new_no a0 w hbad
    rcases hbad with h1 | h1
    · have d1 : decide ((60 : Int) < a0) = false := by simp; omega
      have d3 : decide (a0 < 1) = true := by simpa using h1
      go_wp2_with fail
      (with_reducible refine (hN _).mono ?_)
      rintro e w2 ⟨rfl, rfl⟩
      go_wp2
      go_ret
      exact ⟨rfl, b1⟩
    · have d1 : decide ((60 : Int) < a0) = true := by simp; omega
      have d2 : decide (a0 ≤ (4096 : Int)) = false := by simp; omega
      have d3 : decide (a0 < 1) = false := by simp; omega
      have d4 : decide ((4096 : Int) < a0) = true := by simpa using h1
      go_wp2_with fail
      (with_reducible refine (hN _).mono ?_)
      rintro e w2 ⟨rfl, rfl⟩
      go_wp2
      go_ret
      exact ⟨rfl, b1⟩
  have g1 : 1 ≤ a0 := by omega
  have g2 : a0 ≤ 60 := by omega
  obtain ⟨m, rfl⟩ : ∃ m : Nat, a0 = m := ⟨a0.toNat, by omega⟩
  have d1 : decide ((60 : Int) < (m : Int)) = false := by simp; omega
  have d3 : decide ((m : Int) < 1) = false := by simp; omega
  have d4 : decide ((4096 : Int) < (m : Int)) = false := by simp; omega
  clear hmid hbad
  go_wp2_with fail
  refine (new_ok m _ (by omega) (by omega)).mono ?_
  rintro e w2 ⟨rfl, h2, b2⟩
  have b12 := b1.trans (b2.mono b1.size)
  go_wp2_with fail
  refine (show Calls Try.prog 19 #[.int .i64 (m : Int), .int .u8 0] _ _ from refNew_any m 0 _ (by omega) (by omega)).mono ?_
  rintro e w3 ⟨mb, mc, sb, sc, rp, rfl, hV, hrp, b3⟩
  have b13 := early b12 b12.size b3
  have hD3 := h2.below b3
  have hfr : (newDv m).fresh 0 = newDv m := by simp [newDv, Dv.fresh]
  rw [hfr] at hV ⊢
  have hbth : Both w.heap.size (fun _ => False) (w3.alloc (.cells (refCells (newDv m) mb mc sb sc) 45)) (w1.heap.size + 2) w3.heap.size (newDv m) (newDv m) := by
    have hb : Below w3.heap.size w3 (w3.alloc (.cells (refCells (newDv m) mb mc sb sc) 45)) := (Below.refl _ w3).alloc (Nat.le_refl _) _
    have hlt3 : ∀ k, (w1.heap.size ≤ k ∧ k < w1.heap.size + 3) → k < w2.heap.size := by
      obtain ⟨_, _, _, _, hd⟩ := h2
      exact hd.lt
    refine ⟨_, fun k => rp k ∨ k = w3.heap.size, hD3.below hb, ⟨mb, mc, sb, sc, fun _ => (0, 0), ⟨?_, heap_alloc_new w3 _, .inr rfl⟩⟩, fun k hk => Nat.le_trans b1.size hk.1, fun k hk => ?_, fun k hk hk2 => ?_, fun k hk => hk.elim⟩
    · have hv := hV.below hb
      exact ⟨hv.ok, hv.med, hv.sin, hv.vers, hv.inj, hv.apart, .inl hv.fm, .inl hv.fs, fun i hi => .inl (hv.fv i hi), fun k hk => by rcases hk with hk | rfl; exact hv.lt k hk; simp⟩
    · rcases hk with hk | rfl
      · exact Nat.le_trans b12.size (hrp k hk)
      · exact b13.size
    · have h5 := hlt3 k hk
      rcases hk2 with hk2 | rfl
      · have := hrp k hk2; omega
      · have := b3.size; omega
  unfold refCells at hbth ⊢
  have b14 : Below w.heap.size w (w3.alloc (.cells #[.slice (some ⟨mb, 0, none⟩) (newDv m).med.length mc, .slice (some ⟨sb, 0, none⟩) (newDv m).med.length sc, .bool (newDv m).lost, .int .i64 (fuseV (newDv m))] 45)) := b13.alloc b13.size _
  have hrel0 : PlayRel w.heap.size (w1.heap.size + 2) w3.heap.size len m w len (.int .i64 0) (w3.alloc (.cells #[.slice (some ⟨mb, 0, none⟩) (newDv m).med.length mc, .slice (some ⟨sb, 0, none⟩) (newDv m).med.length sc, .bool (newDv m).lost, .int .i64 (fuseV (newDv m))] 45)) :=
    ⟨0, newDv m, Nat.zero_le _, rfl, rfl, hbth, by simp [newDv], Nat.le_refl _, b14⟩
  clear hbth hfr hV hrp hD3 h2 b1 b2 b12 b3 b13 b14
  go_wp2_with fail
  generalize w1.heap.size + 2 = b at *
  generalize w3.heap.size = rb at *
  go_loopg [8] len (fun g u wr => PlayRel w.heap.size b rb len m w g u wr)
  case atStart => exact hrel0
  case round =>
    obtain ⟨t, S, ht, rfl, rfl, hB, hmed, hcnt, hb⟩ := hrel
    clear hrel0
    by_cases hlt : t < len
    · obtain ⟨x, g, o, _, rfl, hx⟩ := (HA.out.below hb).act hlt
      have c0 := hx.c0
      have c1 := hx.c1
      have c2 := hx.c2
      have c3 := hx.c3
      have c4 := hx.c4
      have HX := Lib.hid hx
      have hB1 := hB.aside (.cells #[.int .u8 (x.do_.toNat : Int), .int .i64 x.at_, .int .i64 x.n, .int .u8 (x.fill.toNat : Int), .slice x.ka x.kn x.kc] 32)
      have b1 : Below w.heap.size w (wr.alloc (.cells #[.int .u8 (x.do_.toNat : Int), .int .i64 x.at_, .int .i64 x.n, .int .u8 (x.fill.toNat : Int), .slice x.ka x.kn x.kc] 32)) := hb.alloc hb.size _
      have hxblk := heap_alloc_new wr (.cells #[.int .u8 (x.do_.toNat : Int), .int .i64 x.at_, .int .i64 x.n, .int .u8 (x.fill.toNat : Int), .slice x.ka x.kn x.kc] 32)
      have k2 := hB1.c2
      have HB1 := Lib.hid hB1
      have HXB := Lib.hid hxblk
      have HMED := Lib.hid hmed
      clear hx hB hB1 hxblk hmed
      go_upto_if 67 with (fail)
      go_cut [10] (fun s10 wc => s10 = .int .i64 (reachE S x.at_) ∧ wc = wr.alloc (.cells #[.int .u8 (x.do_.toNat : Int), .int .i64 x.at_, .int .i64 x.n, .int .u8 (x.fill.toNat : Int), .slice x.ka x.kn x.kc] 32))
      case first => as_aux_lemma =>
        have hre : reachE S x.at_ = if S.lost then 6 else if x.at_ < 0 ∨ (m : Int) ≤ x.at_ then 5 else 0 := by unfold reachE; rw [HMED.out]
        have HRE := Lib.hid hre
        clear hre
        by_cases hl : S.lost = true
        · rw [hl] at k2 ⊢
          go_wp2
          go_meet
          exact ⟨by rw [HRE.out, hl]; rfl, rfl⟩
        · have hl' : S.lost = false := by simpa using hl
          rw [hl'] at k2 ⊢
          by_cases h0 : x.at_ < 0
          · go_wp2
            go_meet
            exact ⟨by rw [HRE.out, hl', if_neg (by simp), if_pos (.inl h0)], rfl⟩
          · have d0 : decide (x.at_ < 0) = false := by simpa using h0
            by_cases h1 : (m : Int) ≤ x.at_
            · go_wp2
              go_meet
              exact ⟨by rw [HRE.out, hl', if_neg (by simp), if_pos (.inr h1)], rfl⟩
            · have d5 : decide ((m : Int) ≤ x.at_) = false := by simpa using h1
              go_wp2
              go_meet
              exact ⟨by rw [HRE.out, hl', if_neg (by simp), if_neg (by omega)], rfl⟩
      case rest => as_aux_lemma =>
        obtain ⟨rfl, rfl⟩ := hcut
        clear k2 c0 c1 c2 c3 c4
        have hxs : wr.heap.size < (wr.alloc (.cells #[.int .u8 (x.do_.toNat : Int), .int .i64 x.at_, .int .i64 x.n, .int .u8 (x.fill.toNat : Int), .slice x.ka x.kn x.kc] 32)).heap.size := by simp
        have hkeep : Ints (fun k => w.heap.size ≤ k) (wr.alloc (.cells #[.int .u8 (x.do_.toNat : Int), .int .i64 x.at_, .int .i64 x.n, .int .u8 (x.fill.toNat : Int), .slice x.ka x.kn x.kc] 32)) (.slice x.ka x.kn x.kc) x.keep := HX.out.keep.early (Below.refl w.heap.size wr |>.alloc hb.size _)
        have hn0 := HX.out.n0
        have hn1 := HX.out.n1
        have hat0 := HX.out.at0
        have hat1 := HX.out.at1
        clear HX hb
        generalize hxb : wr.heap.size = xb at *
        generalize hwx : wr.alloc (.cells #[.int .u8 (x.do_.toNat : Int), .int .i64 x.at_, .int .i64 x.n, .int .u8 (x.fill.toNat : Int), .slice x.ka x.kn x.kc] 32) = wx at *
        clear hwx hxb
        have y0 : wx.cell? ⟨xb, 0, none⟩ = some (.int .u8 (x.do_.toNat : Int)) := by simp [World.cell?, HXB.out]
        have y1 : wx.cell? ⟨xb, 1, none⟩ = some (.int .i64 x.at_) := by simp [World.cell?, HXB.out]
        have y2 : wx.cell? ⟨xb, 2, none⟩ = some (.int .i64 x.n) := by simp [World.cell?, HXB.out]
        have y3 : wx.cell? ⟨xb, 3, none⟩ = some (.int .u8 (x.fill.toNat : Int)) := by simp [World.cell?, HXB.out]
        have y4 : wx.cell? ⟨xb, 4, none⟩ = some (.slice x.ka x.kn x.kc) := by simp [World.cell?, HXB.out]
        have HKP := Lib.hid hkeep
        clear hkeep
        have hdo := x.do_.toNat_lt
        obtain ⟨dq, hdq⟩ : ∃ dq : Nat, (x.do_.toNat : Int) % 10 = (dq : Int) := ⟨x.do_.toNat % 10, by omega⟩
        have hdq10 : dq < 10 := by omega
        go_upto_block 2 with (fail)
        go_cut [10, 79] (fun _ _ wc => PlayPost w.heap.size b rb m t w wc)
        case first =>
          have HP : PlayIn w wx m len b rb t xb dq S x := ⟨g1, g2, h80, hlt, hcnt, HMED, hn0, hn1, hat0, hat1, b1, HB1, HXB, hxs, y0, y1, y2, y3, y4, HKP, hdo, hdq, hdq10⟩
          rcases (show dq < 3 ∨ dq = 3 ∨ dq = 4 ∨ dq = 5 ∨ dq = 6 ∨ dq = 7 ∨ dq = 8 ∨ dq = 9 by omega) with hw | hw | hw | hw | hw | hw | hw | hw
          · refine wp_noPanic ?_; exact play_write HP hw (fun _ _ _ _ h => h) (by assumption) (by assumption)
          · exact play_read HP hw (by assumption) (by assumption)
          · exact play_flush HP hw (by assumption) (by assumption)
          · exact play_crash HP hw (by assumption) (by assumption)
          · exact play_spoil HP hw (by assumption) (by assumption)
          · exact play_lose HP hw (by assumption) (by assumption)
          · exact play_fresh HP hw (by assumption) (by assumption)
          · exact play_fuse HP hw (by assumption) (by assumption)
        case rest => as_aux_lemma =>
          obtain ⟨S2, hB2, hm2, hc2, b2⟩ := hcut
          clear y0 y1 y2 y3 y4 HKP HXB HB1 b1 hdq hdq10 hdo
          have k2 := hB2.c2
          have hL := fun n => quiet_same (lostL w.heap.size b S2 (wc.drewN n) (hB2.devQ.below (below_drewN (Below.refl _ _) n)))
          have hC := fun n => quiet_same (secsL w.heap.size b S2 (wc.drewN n) (hB2.devQ.below (below_drewN (Below.refl _ _) n)))
          have HB2 := Lib.hid hB2
          clear hB2
          rw [hm2] at hC
          have HM2 := Lib.hid hm2
          clear hm2
          generalize hlo : S2.lost = lo at *
          have HLO := Lib.hid hlo
          clear hlo
          have n1 : (lo != lo) = false := by simp
          have n2 : ((m : Int) != (m : Int)) = false := by simp
          go_wp2_with fail
          go_quiet (first | (go_at_call 27; exact hL _) | (go_at_call 28; exact hC _))
          have b3 : Below w.heap.size w (wc.drewN nq) := below_drewN b2 nq
          have hB3 := HB2.out.below (below_drewN (Below.refl _ wc) nq)
          clear hL hC k2 HB2 b2
          generalize wc.drewN nq = w4 at *
          have hQ := cachedL w.heap.size b S2 w4 hB3.devQ (by omega)
          have HB3 := Lib.hid hB3
          clear hB3
          go_wp2_with fail
          refine hQ.mono ?_
          rintro e w5 ⟨v, rfl, hI, b5⟩
          have hB5 := HB3.out.below b5
          have b55 := early b3 b3.size b5
          obtain ⟨ca, cc, rfl, hcl, hcells⟩ := hI.ints (fp := fun _ => False) (fun _ h => h.elim)
          obtain ⟨mb', mc', sb', sc', hdd, rp', hV, p0, p1⟩ := hB5.val
          have hsin := hV.sin
          rw [HM2.out] at p1 hsin
          have hkl : (S2.keys.map Int.ofNat).length = S2.keys.length := by simp
          have HS := Lib.hid hsin
          have HCE := Lib.hid hcells
          have HB5 := Lib.hid hB5
          have B5 := Lib.hid b55
          have hl60 : S2.keys.length ≤ m := by rw [← HM2.out]; exact cntB_le S2 S2.med.length
          have hlens : ∀ k, (S2.since k).length ≤ S2.cnt := hV.ok.cnts
          have HLE := Lib.hid hlens
          rw [hkl] at hcl ⊢
          have HKL := Lib.hid hkl
          clear hsin hcells hB5 b55 hV hI b5 b3 hQ hkl p0 hlens
          generalize hkn : S2.keys.length = kn at *
          have HKN := Lib.hid hkn
          clear hkn
          go_wp2_with fail
          go_loopg [19, 20] m (fun g u19 u20 wr => ChkRel S2 m g u19 u20 ∧ wr = w5)
          case atStart => exact ⟨⟨0, Nat.zero_le _, rfl, rfl, rfl⟩, rfl⟩
          case round =>
            obtain ⟨⟨k, hk, rfl, rfl, rfl⟩, rfl⟩ := hrel
            by_cases hkm : k < m
            · have hcell := HS.out.cells k hkm
              by_cases hs : S2.since k = []
              · rw [show rvOf S2 hdd k = none by unfold rvOf; rw [if_pos hs]] at hcell
                simp only [Hd.val] at hcell
                have HSS := Lib.hid hs
                clear hs
                generalize hcn : cntB S2 k = cn at *
                go_wp2
                go_roundg (m - (k + 1))
                case measure => omega
                case rel => exact ⟨⟨k + 1, by omega, rfl, by simp, by rw [cntB_none HSS.out, hcn]⟩, rfl⟩
              · rw [show rvOf S2 hdd k = some ((hdd k).1, (S2.since k).length, (hdd k).2) by unfold rvOf; rw [if_neg hs]] at hcell
                simp only [Hd.val] at hcell
                have hlt : cntB S2 k < kn := by rw [← HKN.out]; exact cntB_lt (by rw [HM2.out]; exact hkm) hs
                obtain ⟨cg, co, rfl, _, hcg, hcc⟩ := HCE.out (cntB S2 k) (by rw [HKL.out]; exact hlt)
                have hge : (S2.keys.map Int.ofNat).getD (cntB S2 k) 0 = (k : Int) := by
                  have h1 := keys_cnt S2 k (by rw [HM2.out]; exact hkm) hs
                  have h2 : cntB S2 k < S2.keys.length := by rw [HKN.out]; exact hlt
                  rw [List.getD_eq_getElem?_getD, List.getElem?_eq_getElem h2] at h1
                  rw [List.getD_eq_getElem?_getD, List.getElem?_map, List.getElem?_eq_getElem h2]
                  simp at h1 ⊢
                  rw [h1]
                rw [hge] at hcc
                have hpos : 0 < (S2.since k).length := List.length_pos_iff.2 hs
                have hle := HLE.out k
                generalize (S2.since k).length = sl at *
                have HSS := Lib.hid hs
                clear hs hge
                generalize hcn : cntB S2 k = cn at *
                have e1 : ((k : Int) != (k : Int)) = false := by simp
                go_wp2
                go_roundg (m - (k + 1))
                case measure => omega
                case rel => exact ⟨⟨k + 1, by omega, rfl, by simp, by rw [cntB_some HSS.out, hcn]; simp⟩, rfl⟩
            · obtain rfl : k = m := by omega
              have hcn : cntB S2 k = kn := by rw [← HKN.out, ← HM2.out]; rfl
              rw [hcn]
              have e1 : ((kn : Int) != (kn : Int)) = false := by simp
              clear hcn
              go_wp2
              go_roundg (len - (t + 1))
              case measure => omega
              case rel => exact ⟨t + 1, S2, by omega, rfl, by simp, HB5.out, HM2.out, hc2, B5.out⟩
    · obtain rfl : t = len := by omega
      go_wp2
      go_ret
      exact ⟨rfl, hb⟩
end Go.Proofs.Ytmkheikllbjcbaa
