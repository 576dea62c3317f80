/-
  The document's Settle.
-/
import Derived.Test.YtmkheikllbjcbaaEe
namespace Go.Proofs.Ytmkheikllbjcbaa
open Go.RowKit Go.Maps

theorem cell_new (w : World) (v : Value) (t : TypeId) : (w.alloc (.cells #[v] t)).cell? ⟨w.heap.size, 0, none⟩ = some v := by
  unfold World.cell?
  simp only [heap_alloc_new w (.cells #[v] t)]
  simp
/-- How many sectors in the cache lie ahead of one. -/
def cntB (R : Dv) (k : Nat) : Nat := ((List.range k).filter fun i => !(R.since i).isEmpty).length
theorem cntB_some {R : Dv} {k : Nat} (h : R.since k ≠ []) : cntB R (k + 1) = cntB R k + 1 := by
  unfold cntB
  have : (R.since k).isEmpty = false := by simpa using h
  rw [List.range_succ, List.filter_append, List.length_append]
  simp [this]
theorem cntB_none {R : Dv} {k : Nat} (h : R.since k = []) : cntB R (k + 1) = cntB R k := by
  unfold cntB
  rw [List.range_succ, List.filter_append, List.length_append]
  simp [h]
theorem cntB_le (R : Dv) (k : Nat) : cntB R k ≤ k := by
  unfold cntB
  have := List.length_filter_le (fun i => !(R.since i).isEmpty) (List.range k)
  simpa using this
/-- What a sector stands at behind a crash. -/
def setAt (R : Dv) (l : List Int) (k : Nat) : Sec :=
  if R.since k = [] then R.med.getD k [] else if cntB R k < l.length then (R.med.getD k [] :: R.since k).getD (l.getD (cntB R k) 0 % ((R.since k).length + 1 : Int)).toNat [] else R.med.getD k []
def Dv.settled (R : Dv) (l : List Int) : Dv := { R with med := (List.range R.med.length).map (setAt R l), since := fun _ => [], cnt := 0 }
def SetRel (R : Dv) (w : World) (ob n : Nat) (f : Int) (ls : List Sec) (u6 u : Value) (wr : World) : Prop :=
  ∃ t vm vs, t ≤ n ∧ u = .int .i64 ((t : Nat) : Int) ∧ u6 = .int .i64 ((cntB R t : Nat) : Int) ∧ Out wr w.heap.size ob f vm vs (ls.take t) t ∧ (ls.take t).length = t ∧ Below w.heap.size w wr

set_option maxRecDepth 100000 in
set_option maxHeartbeats 8000000 in
theorem refSettle_any (mb mc sb sc : Nat) (hd : Nat → Nat × Nat) (R : Dv) (rp : Nat → Prop) (ka : Option Addr) (kn kc : Nat) (kl : List Int) (w : World) (h : RefV w mb mc sb sc hd R rp) (hc : R.cnt ≤ 4294967296) (hl : R.lost = false)
    (hK : Ints (fun _ => False) w (.slice ka kn kc) kl) :
    Calls Try.prog 22 #[.agg (refCells R mb mc sb sc), .slice ka kn kc] w fun e w' => ∃ mb' mc' sb' sc' rp', e = .returned (.agg (refCells (R.settled kl) mb' mc' sb' sc')) ∧ RefV w' mb' mc' sb' sc' (fun _ => (0, 0)) (R.settled kl) rp' ∧ (∀ k, rp' k → w.heap.size ≤ k) ∧ Below w.heap.size w w' := by
  obtain ⟨n, hn⟩ : ∃ n, n = R.med.length := ⟨_, rfl⟩
  have hn2 : n ≤ 4096 := by rw [hn]; exact h.ok.n2
  have hn1 : 1 ≤ n := by rw [hn]; exact h.ok.n1
  obtain ⟨ls, hls⟩ : ∃ ls, ls = (List.range n).map (setAt R kl) := ⟨_, rfl⟩
  have hlen : ls.length = n := by rw [hls]; simp
  have HLN := Lib.hid hlen
  have hget : ∀ t, t < n → ls[t]? = some (setAt R kl t) := fun t ht => by rw [hls, List.getElem?_map, List.getElem?_range ht]; rfl
  have HG := Lib.hid hget
  have HLS := Lib.hid hls
  have HN := Lib.hid hn
  clear hget hls hlen
  have HV := Lib.hid h
  have HK := Lib.hid hK
  have hkl := hK.at_.1
  have HKL := Lib.hid hkl
  have hcells : refCells R mb mc sb sc = #[.slice (some ⟨mb, 0, none⟩) n mc, .slice (some ⟨sb, 0, none⟩) n sc, .bool false, .int .i64 (fuseV R)] := by unfold refCells; rw [← hn, hl]
  rw [hcells]
  clear h hn hcells hK hkl
  generalize hfz : fuseV R = fz at *
  have HFZ := Lib.hid hfz
  clear hfz
  go_enter Try.func22, Try.ntmps22
  go_wp2_with fail
  obtain ⟨w0, hw0⟩ : ∃ w0, w0 = w.alloc (.cells #[.slice (some ⟨mb, 0, none⟩) n mc, .slice (some ⟨sb, 0, none⟩) n sc, .bool false, .int .i64 fz] 45) := ⟨_, rfl⟩
  obtain ⟨w1, hw1⟩ : ∃ w1, w1 = w0.alloc (.cells #[.slice none 0 0, .slice none 0 0, .bool false, .int .i64 0] 45) := ⟨_, rfl⟩
  have hz0 : w0.heap.size = w.heap.size + 1 := by rw [hw0]; simp
  have hz1 : w1.heap.size = w.heap.size + 2 := by rw [hw1]; simp [hz0]
  have hb1 : Below w.heap.size w w1 := by rw [hw1, hw0]; exact ((Below.refl _ w).alloc (Nat.le_refl _) _).alloc (by simp) _
  have hX : Box w1 w.heap.size (.slice (some ⟨mb, 0, none⟩) n mc) (.slice (some ⟨sb, 0, none⟩) n sc) (.bool false) (.int .i64 fz) := by
    rw [hw1, hw0]
    exact (box_new w _ _ _ _ _).below (B := w.heap.size + 1) ((Below.refl _ _).alloc (by simp) _) (by omega)
  have hr1 : w1.heap[w.heap.size + 1]? = some (.cells #[.slice none 0 0, .slice none 0 0, .bool false, .int .i64 0] 45 (0, 0)) := by rw [hw1, ← hz0]; exact heap_alloc_new w0 _
  rw [← hw0, ← hw1, ← hz1]
  have hrel0 : SetRel R w1 w1.heap.size n fz ls (.int .i64 0) (.int .i64 0) (w1.alloc (.cells #[.slice none 0 0, .slice none 0 0, .bool false, .int .i64 fz] 45)) :=
    ⟨0, _, _, Nat.zero_le _, rfl, rfl, ⟨heap_alloc_new w1 _, World.ownsRow_nil _ _ _ _, World.ownsRow_nil _ _ _ _, Nat.le_refl _⟩, rfl, (Below.refl _ w1).alloc (Nat.le_refl _) _⟩
  have HZ := Lib.hid hz1
  have HR1 := Lib.hid hr1
  have HB1 := Lib.hid hb1
  have HX := Lib.hid hX
  clear hw0 hw1 hz0 hz1 hb1 hr1 hX
  generalize hob : w1.heap.size = ob at *
  have HOB := Lib.hid hob
  clear hob
  go_loopw [6, 7] (fun u6 u wr => SetRel R w1 ob n fz ls u6 u wr) (fun _ u _ => n - (intOf u).toNat)
  case atStart => exact hrel0
  case round =>
    obtain ⟨t, vm, vs, ht, rfl, rfl, hO, htl, hb⟩ := hrel
    clear hrel0
    have hxb : w.heap.size < w1.heap.size := by rw [HOB.out, HZ.out]; omega
    have hXr := HX.out.below hb hxb
    have x0 := hXr.c0
    have x1 := hXr.c1
    have x2 := hXr.c2
    have x3 := hXr.c3
    by_cases hlt : t < n
    · have hx := take_succ_some (HG.out t hlt)
      have hz := hb.size
      have HXX := Lib.hid hx
      have HTL := Lib.hid htl
      clear hx htl
      generalize ls.take t = l at *
      have HO := Lib.hid hO
      clear hO
      have bw : Below w.heap.size w wr := HB1.out.trans (hb.mono (Nat.le_of_lt hxb))
      have hVr := HV.out.below bw
      have htR : t < R.med.length := by rw [← HN.out]; exact hlt
      have hs := hVr.sin.cells t htR
      have hm := hVr.med.cells t htR
      have hcn := hVr.ok.cnts t
      have hcb := cntB_le R t
      have q4 : (t : Int) < (n : Int) := by omega
      by_cases hsn : R.since t = []
      · have e1 : rvOf R hd t = none := by unfold rvOf; rw [if_pos hsn]
        rw [e1] at hs
        simp only [Hd.val] at hs
        have hsa : setAt R kl t = R.med.getD t [] := by unfold setAt; rw [if_pos hsn]
        have HCN := Lib.hid (cntB_none hsn)
        have HST0 := Lib.hid hsa
        rw [← hsa] at hm
        generalize hst : strOf (setAt R kl t) = st at *
        have HST := Lib.hid hst
        clear hst e1 hsa hVr
        generalize hq6 : cntB R t = q6 at *
        have HQ6 := Lib.hid hq6
        clear hq6
        have tok1 : True := trivial
        have hO5 := HO.out.below ((Below.refl _ wr).alloc (Nat.le_refl _) (.cells #[.string st] 9))
        have b6 : Below w1.heap.size w1 (wr.alloc (.cells #[.string st] 9)) := hb.alloc hz _
        obtain ⟨g, c, w6, e1, c6, f6, hO6, b7⟩ := out_med hO5 wr.heap.size (setAt R kl t) (by rw [HST.out]; simp) b6.size (by rw [HTL.out]; omega) 42
        rw [HTL.out] at e1 hO6 b7
        have b8 := b6.trans b7
        have hz8 := b8.size
        have hO7 := hO6.below ((Below.refl _ _).alloc (Nat.le_refl _) (.cells #[.slice none 0 0] 42))
        have b9 := b8.alloc hz8 (.cells #[.slice none 0 0] 42)
        obtain ⟨g2, c2, w8, e2, c8, f8, hO8, b10⟩ := out_sin hO7 (w6.setCell ⟨ob, 0, none⟩ (.slice (some ⟨g, 0, none⟩) (t + 1) c)).heap.size (cell_new _ _ _) b9.size (by omega) 43
        have b11 := b9.trans b10
        have d1 : w6.cell? ⟨ob, 1, none⟩ = some vs := by have := hO6.c1; rwa [World.cell?_setCell_other _ _ _ _ (by intro h; injection h with _ h _; cases h)] at this
        have HO8 := Lib.hid hO8
        have S0 := HO.out.c0
        have hsz6 : (w6.setCell ⟨ob, 0, none⟩ (.slice (some ⟨g, 0, none⟩) (t + 1) c)).heap.size = w6.heap.size := by simp [World.setCell]
        rw [hsz6] at e2
        clear hO5 hO6 hO7 hO8 b6 b7 b8 b9 b10 hz8 hsz6
        go_wp2_with (first | (at_builtin; have _t := tok1; refine Lib.wpList_append_run _ rfl _ _ _ _ rfl _ _ rfl rfl _ _ e1 ?_; clear tok1) | (at_builtin; refine Lib.wpList_append_run _ rfl _ _ _ _ rfl _ _ rfl rfl _ _ e2 ?_))
        go_roundw
        case rel => exact ⟨t + 1, _, _, by omega, by go_num, by rw [HCN.out], by rw [HXX.out]; exact HO8.out, by rw [HXX.out, List.length_append, HTL.out]; rfl, b11⟩
        case measure => simp [intOf]; omega
      · have e1 : rvOf R hd t = some ((hd t).1, (R.since t).length, (hd t).2) := by unfold rvOf; rw [if_neg hsn]
        rw [e1] at hs
        simp only [Hd.val] at hs
        have hp : 0 < (R.since t).length := List.length_pos_iff.2 hsn
        have HCN := Lib.hid (cntB_some hsn)
        have hver := hVr.vers t hsn
        have hvl := hver.le
        have hvc := hver.cap
        have dp : decide ((0 : Int) < ((R.since t).length : Int)) = true := by simp; exact hp
        by_cases hck : cntB R t < kn
        · obtain ⟨kg, ko, hka, _, hkg, hkcell⟩ := HK.out.at_.2 (cntB R t) (by rw [HKL.out]; exact hck)
          subst hka
          have hkcell2 : wr.cell? ⟨kg, ko + cntB R t, none⟩ = some (.int .i64 (kl.getD (cntB R t) 0)) := by rw [bw.cell (p := ⟨kg, ko + cntB R t, none⟩) hkg]; exact hkcell
          clear hkcell
          have dc : decide (cntB R t < kn) = true := by simpa using hck
          have hsa : setAt R kl t = (R.med.getD t [] :: R.since t).getD (kl.getD (cntB R t) 0 % ((R.since t).length + 1 : Int)).toNat [] := by unfold setAt; rw [if_neg hsn, if_pos (by rw [HKL.out]; exact hck)]
          have he := emod_tmod (kl.getD (cntB R t) 0) ((R.since t).length + 1 : Int) (by omega)
          have t1 : (kl.getD (cntB R t) 0).tmod ((R.since t).length + 1 : Int) < ((R.since t).length + 1 : Int) := Int.tmod_lt_of_pos _ (by omega)
          have t2 : -((R.since t).length + 1 : Int) < (kl.getD (cntB R t) 0).tmod ((R.since t).length + 1 : Int) := tmod_low _ _ (by omega)
          have hne : ¬ ((R.since t).length + 1 : Int) = 0 := by omega
          have hne' : (((R.since t).length + 1 : Int) == 0) = false := by simpa using hne
          have HVER := Lib.hid hver
          clear hVr hver e1
          by_cases hr0 : (kl.getD (cntB R t) 0).tmod ((R.since t).length + 1 : Int) < 0
          · rw [if_pos hr0] at he
            obtain ⟨j, hj⟩ : ∃ j : Nat, (kl.getD (cntB R t) 0).tmod ((R.since t).length + 1 : Int) + ((R.since t).length : Int) + 1 = (j : Int) + 1 := ⟨((kl.getD (cntB R t) 0).tmod ((R.since t).length + 1 : Int) + ((R.since t).length : Int)).toNat, by omega⟩
            have hjl : j < (R.since t).length := by omega
            have hvcell := HVER.out.cells j hjl
            have hsa2 : setAt R kl t = (R.since t).getD j [] := by
              rw [hsa, he, show (kl.getD (cntB R t) 0).tmod ((R.since t).length + 1 : Int) + ((R.since t).length + 1 : Int) = ((j + 1 : Nat) : Int) by omega, Int.toNat_natCast, List.getD_cons_succ]
            rw [← hsa2] at hvcell
            have q5 : (j : Int) < ((R.since t).length : Int) := by omega
            clear he hsa hsa2 HVER t1 t2
            generalize hst : strOf (setAt R kl t) = st at *
            have HST := Lib.hid hst
            generalize strOf (R.med.getD t []) = sm at *
            generalize hrr : (kl.getD (cntB R t) 0).tmod ((R.since t).length + 1 : Int) = r at *
            clear hst
            have r1 : -4294967300 < r := by omega
            have hj2 : Hid (r + ((R.since t).length : Int) + 1 = (j : Int) + 1) := hj
            generalize kl.getD (cntB R t) 0 = kv at *
            generalize (R.since t).length = q at *
            generalize hq6 : cntB R t = q6 at *
            have HQ6 := Lib.hid hq6
            clear hq6
            generalize (hd t).1 = vg at *
            generalize (hd t).2 = vc at *
            unfold maxLen at hvc
            have tok1 : True := trivial
            have hO5 := HO.out.below ((Below.refl _ wr).alloc (Nat.le_refl _) (.cells #[.string st] 9))
            have b6 : Below w1.heap.size w1 (wr.alloc (.cells #[.string st] 9)) := hb.alloc hz _
            obtain ⟨g, c, w6, e1, c6, f6, hO6, b7⟩ := out_med hO5 wr.heap.size (setAt R kl t) (by rw [HST.out]; simp) b6.size (by rw [HTL.out]; omega) 42
            rw [HTL.out] at e1 hO6 b7
            have b8 := b6.trans b7
            have hz8 := b8.size
            have hO7 := hO6.below ((Below.refl _ _).alloc (Nat.le_refl _) (.cells #[.slice none 0 0] 42))
            have b9 := b8.alloc hz8 (.cells #[.slice none 0 0] 42)
            obtain ⟨g2, c2, w8, e2, c8, f8, hO8, b10⟩ := out_sin hO7 (w6.setCell ⟨ob, 0, none⟩ (.slice (some ⟨g, 0, none⟩) (t + 1) c)).heap.size (cell_new _ _ _) b9.size (by omega) 43
            have b11 := b9.trans b10
            have d1 : w6.cell? ⟨ob, 1, none⟩ = some vs := by have := hO6.c1; rwa [World.cell?_setCell_other _ _ _ _ (by intro h; injection h with _ h _; cases h)] at this
            have HO8 := Lib.hid hO8
            have S0 := HO.out.c0
            have hsz6 : (w6.setCell ⟨ob, 0, none⟩ (.slice (some ⟨g, 0, none⟩) (t + 1) c)).heap.size = w6.heap.size := by simp [World.setCell]
            rw [hsz6] at e2
            clear hO5 hO6 hO7 hO8 b6 b7 b8 b9 b10 hz8 hsz6
            go_wp2_with (first | (at_builtin; have _t := tok1; refine Lib.wpList_append_run _ rfl _ _ _ _ rfl _ _ rfl rfl _ _ e1 ?_; clear tok1) | (at_builtin; refine Lib.wpList_append_run _ rfl _ _ _ _ rfl _ _ rfl rfl _ _ e2 ?_))
            go_roundw
            case rel => exact ⟨t + 1, _, _, by omega, by go_num, by rw [HCN.out]; go_num, by rw [HXX.out]; exact HO8.out, by rw [HXX.out, List.length_append, HTL.out]; rfl, b11⟩
            case measure => simp [intOf]; omega
          · rw [if_neg hr0] at he
            have hr0' : decide ((kl.getD (cntB R t) 0).tmod ((R.since t).length + 1 : Int) < 0) = false := by simpa using hr0
            by_cases hrz : (kl.getD (cntB R t) 0).tmod ((R.since t).length + 1 : Int) = 0
            · have hsa2 : setAt R kl t = R.med.getD t [] := by rw [hsa, he, hrz]; rfl
              rw [← hsa2] at hm
              clear he hsa hsa2 HVER t1 t2 hr0 hr0'
              generalize hst : strOf (setAt R kl t) = st at *
              have HST := Lib.hid hst
              clear hst
              generalize kl.getD (cntB R t) 0 = kv at *
              generalize (R.since t).length = q at *
              generalize hq6 : cntB R t = q6 at *
              have HQ6 := Lib.hid hq6
              clear hq6
              generalize (hd t).1 = vg at *
              generalize (hd t).2 = vc at *
              unfold maxLen at hvc
              have tok1 : True := trivial
              have hO5 := HO.out.below ((Below.refl _ wr).alloc (Nat.le_refl _) (.cells #[.string st] 9))
              have b6 : Below w1.heap.size w1 (wr.alloc (.cells #[.string st] 9)) := hb.alloc hz _
              obtain ⟨g, c, w6, e1, c6, f6, hO6, b7⟩ := out_med hO5 wr.heap.size (setAt R kl t) (by rw [HST.out]; simp) b6.size (by rw [HTL.out]; omega) 42
              rw [HTL.out] at e1 hO6 b7
              have b8 := b6.trans b7
              have hz8 := b8.size
              have hO7 := hO6.below ((Below.refl _ _).alloc (Nat.le_refl _) (.cells #[.slice none 0 0] 42))
              have b9 := b8.alloc hz8 (.cells #[.slice none 0 0] 42)
              obtain ⟨g2, c2, w8, e2, c8, f8, hO8, b10⟩ := out_sin hO7 (w6.setCell ⟨ob, 0, none⟩ (.slice (some ⟨g, 0, none⟩) (t + 1) c)).heap.size (cell_new _ _ _) b9.size (by omega) 43
              have b11 := b9.trans b10
              have d1 : w6.cell? ⟨ob, 1, none⟩ = some vs := by have := hO6.c1; rwa [World.cell?_setCell_other _ _ _ _ (by intro h; injection h with _ h _; cases h)] at this
              have HO8 := Lib.hid hO8
              have S0 := HO.out.c0
              have hsz6 : (w6.setCell ⟨ob, 0, none⟩ (.slice (some ⟨g, 0, none⟩) (t + 1) c)).heap.size = w6.heap.size := by simp [World.setCell]
              rw [hsz6] at e2
              clear hO5 hO6 hO7 hO8 b6 b7 b8 b9 b10 hz8 hsz6
              go_wp2_with (first | (at_builtin; have _t := tok1; refine Lib.wpList_append_run _ rfl _ _ _ _ rfl _ _ rfl rfl _ _ e1 ?_; clear tok1) | (at_builtin; refine Lib.wpList_append_run _ rfl _ _ _ _ rfl _ _ rfl rfl _ _ e2 ?_))
              go_roundw
              case rel => exact ⟨t + 1, _, _, by omega, by go_num, by rw [HCN.out]; go_num, by rw [HXX.out]; exact HO8.out, by rw [HXX.out, List.length_append, HTL.out]; rfl, b11⟩
              case measure => simp [intOf]; omega
            · obtain ⟨j, hj⟩ : ∃ j : Nat, (kl.getD (cntB R t) 0).tmod ((R.since t).length + 1 : Int) = (j : Int) + 1 := ⟨((kl.getD (cntB R t) 0).tmod ((R.since t).length + 1 : Int) - 1).toNat, by omega⟩
              have hjl : j < (R.since t).length := by omega
              have hvcell := HVER.out.cells j hjl
              have hsa2 : setAt R kl t = (R.since t).getD j [] := by
                rw [hsa, he, hj, show ((j : Int) + 1).toNat = j + 1 by omega, List.getD_cons_succ]
              rw [← hsa2] at hvcell
              have q5 : (j : Int) < ((R.since t).length : Int) := by omega
              clear he hsa hsa2 HVER t1 t2 hr0 hr0' hrz
              generalize hst : strOf (setAt R kl t) = st at *
              have HST := Lib.hid hst
              clear hst
              generalize strOf (R.med.getD t []) = sm at *
              generalize kl.getD (cntB R t) 0 = kv at *
              generalize (R.since t).length = q at *
              generalize hq6 : cntB R t = q6 at *
              have HQ6 := Lib.hid hq6
              clear hq6
              generalize (hd t).1 = vg at *
              generalize (hd t).2 = vc at *
              unfold maxLen at hvc
              have tok1 : True := trivial
              have hO5 := HO.out.below ((Below.refl _ wr).alloc (Nat.le_refl _) (.cells #[.string st] 9))
              have b6 : Below w1.heap.size w1 (wr.alloc (.cells #[.string st] 9)) := hb.alloc hz _
              obtain ⟨g, c, w6, e1, c6, f6, hO6, b7⟩ := out_med hO5 wr.heap.size (setAt R kl t) (by rw [HST.out]; simp) b6.size (by rw [HTL.out]; omega) 42
              rw [HTL.out] at e1 hO6 b7
              have b8 := b6.trans b7
              have hz8 := b8.size
              have hO7 := hO6.below ((Below.refl _ _).alloc (Nat.le_refl _) (.cells #[.slice none 0 0] 42))
              have b9 := b8.alloc hz8 (.cells #[.slice none 0 0] 42)
              obtain ⟨g2, c2, w8, e2, c8, f8, hO8, b10⟩ := out_sin hO7 (w6.setCell ⟨ob, 0, none⟩ (.slice (some ⟨g, 0, none⟩) (t + 1) c)).heap.size (cell_new _ _ _) b9.size (by omega) 43
              have b11 := b9.trans b10
              have d1 : w6.cell? ⟨ob, 1, none⟩ = some vs := by have := hO6.c1; rwa [World.cell?_setCell_other _ _ _ _ (by intro h; injection h with _ h _; cases h)] at this
              have HO8 := Lib.hid hO8
              have S0 := HO.out.c0
              have hsz6 : (w6.setCell ⟨ob, 0, none⟩ (.slice (some ⟨g, 0, none⟩) (t + 1) c)).heap.size = w6.heap.size := by simp [World.setCell]
              rw [hsz6] at e2
              clear hO5 hO6 hO7 hO8 b6 b7 b8 b9 b10 hz8 hsz6
              go_wp2_with (first | (at_builtin; have _t := tok1; refine Lib.wpList_append_run _ rfl _ _ _ _ rfl _ _ rfl rfl _ _ e1 ?_; clear tok1) | (at_builtin; refine Lib.wpList_append_run _ rfl _ _ _ _ rfl _ _ rfl rfl _ _ e2 ?_))
              go_roundw
              case rel => exact ⟨t + 1, _, _, by omega, by go_num, by rw [HCN.out]; go_num, by rw [HXX.out]; exact HO8.out, by rw [HXX.out, List.length_append, HTL.out]; rfl, b11⟩
              case measure => simp [intOf]; omega
        · have dc : decide (cntB R t < kn) = false := by simpa using hck
          have hsa : setAt R kl t = R.med.getD t [] := by unfold setAt; rw [if_neg hsn, if_neg (by rw [HKL.out]; exact hck)]
          rw [← hsa] at hm
          generalize hst : strOf (setAt R kl t) = st at *
          have HST := Lib.hid hst
          clear hst hsa hVr hver e1
          generalize (R.since t).length = q at *
          generalize hq6 : cntB R t = q6 at *
          have HQ6 := Lib.hid hq6
          clear hq6
          generalize (hd t).1 = vg at *
          generalize (hd t).2 = vc at *
          unfold maxLen at hvc
          have tok1 : True := trivial
          have hO5 := HO.out.below ((Below.refl _ wr).alloc (Nat.le_refl _) (.cells #[.string st] 9))
          have b6 : Below w1.heap.size w1 (wr.alloc (.cells #[.string st] 9)) := hb.alloc hz _
          obtain ⟨g, c, w6, e1, c6, f6, hO6, b7⟩ := out_med hO5 wr.heap.size (setAt R kl t) (by rw [HST.out]; simp) b6.size (by rw [HTL.out]; omega) 42
          rw [HTL.out] at e1 hO6 b7
          have b8 := b6.trans b7
          have hz8 := b8.size
          have hO7 := hO6.below ((Below.refl _ _).alloc (Nat.le_refl _) (.cells #[.slice none 0 0] 42))
          have b9 := b8.alloc hz8 (.cells #[.slice none 0 0] 42)
          obtain ⟨g2, c2, w8, e2, c8, f8, hO8, b10⟩ := out_sin hO7 (w6.setCell ⟨ob, 0, none⟩ (.slice (some ⟨g, 0, none⟩) (t + 1) c)).heap.size (cell_new _ _ _) b9.size (by omega) 43
          have b11 := b9.trans b10
          have d1 : w6.cell? ⟨ob, 1, none⟩ = some vs := by have := hO6.c1; rwa [World.cell?_setCell_other _ _ _ _ (by intro h; injection h with _ h _; cases h)] at this
          have HO8 := Lib.hid hO8
          have S0 := HO.out.c0
          have hsz6 : (w6.setCell ⟨ob, 0, none⟩ (.slice (some ⟨g, 0, none⟩) (t + 1) c)).heap.size = w6.heap.size := by simp [World.setCell]
          rw [hsz6] at e2
          clear hO5 hO6 hO7 hO8 b6 b7 b8 b9 b10 hz8 hsz6
          go_wp2_with (first | (at_builtin; have _t := tok1; refine Lib.wpList_append_run _ rfl _ _ _ _ rfl _ _ rfl rfl _ _ e1 ?_; clear tok1) | (at_builtin; refine Lib.wpList_append_run _ rfl _ _ _ _ rfl _ _ rfl rfl _ _ e2 ?_))
          go_roundw
          case rel => exact ⟨t + 1, _, _, by omega, by go_num, by rw [HCN.out]; go_num, by rw [HXX.out]; exact HO8.out, by rw [HXX.out, List.length_append, HTL.out]; rfl, b11⟩
          case measure => simp [intOf]; omega
    · obtain rfl : t = n := by omega
      rw [List.take_of_length_le (by rw [HLN.out]; exact Nat.le_refl _)] at hO htl
      have hO' : Out wr w1.heap.size ob fz vm vs ls ls.length := by rw [htl]; exact hO
      have hok : DvOk (R.settled kl) := ⟨by simp [Dv.settled, ← HN.out]; omega, by simp [Dv.settled, ← HN.out]; omega, fun _ _ => rfl, HV.out.ok.left, fun _ => Nat.le_refl _⟩
      obtain ⟨mb', mc', sb', sc', rp', hcells, hV, hrp⟩ := out_ref hO' (R.settled kl) hok (by rw [HLS.out, HN.out]; rfl) (fun _ => rfl) hl (by rw [← HFZ.out]; rfl)
      have HCE := Lib.hid hcells
      clear hcells
      have k0 := hO.c0
      have k1 := hO.c1
      have k2 : wr.cell? ⟨ob, 2, none⟩ = some (.bool false) := by simp [World.cell?, hO.blk]
      have k3 : wr.cell? ⟨ob, 3, none⟩ = some (.int .i64 fz) := by simp [World.cell?, hO.blk]
      have hwl : w.heap.size + 1 < w1.heap.size := by rw [HOB.out, HZ.out]; omega
      have hblk : wr.heap[w.heap.size + 1]? = some (.cells #[.slice none 0 0, .slice none 0 0, .bool false, .int .i64 0] 45 (0, 0)) := (hb.block _ hwl).trans HR1.out
      have r0 : wr.cell? ⟨w.heap.size + 1, 0, none⟩ = some (.slice none 0 0) := by simp [World.cell?, hblk]
      have r1 : wr.cell? ⟨w.heap.size + 1, 1, none⟩ = some (.slice none 0 0) := by simp [World.cell?, hblk]
      have r2 : wr.cell? ⟨w.heap.size + 1, 2, none⟩ = some (.bool false) := by simp [World.cell?, hblk]
      have r3 : wr.cell? ⟨w.heap.size + 1, 3, none⟩ = some (.int .i64 0) := by simp [World.cell?, hblk]
      have rf : ∀ o, wr.frozen? ⟨w.heap.size + 1, o, none⟩ = false := fun o => by simp [World.frozen?, hblk]
      have HO := Lib.hid hO
      clear hO hO' htl ht hlt hblk
      obtain ⟨am, nm, cm, rfl⟩ : ∃ a n c, vm = .slice a n c := by
        rcases HO.out.m.2 with ⟨rfl, _⟩ | ⟨_, _, _, rfl, _⟩
        · exact ⟨_, _, _, rfl⟩
        · exact ⟨_, _, _, rfl⟩
      obtain ⟨a_s, n_s, c_s, rfl⟩ : ∃ a n c, vs = .slice a n c := by
        rcases HO.out.s.2 with ⟨rfl, _⟩ | ⟨_, _, _, rfl, _⟩
        · exact ⟨_, _, _, rfl⟩
        · exact ⟨_, _, _, rfl⟩
      go_wp2
      refine bodyPost_ret (v := .agg #[.slice am nm cm, .slice a_s n_s c_s, .bool false, .int .i64 fz]) (by simp [results, Try.results22, go_sem, r0, r1, r2, r3]) rfl ⟨mb', mc', sb', sc', rp', by rw [HCE.out], ?_, fun k hk => by have := hrp k hk; omega, ?_⟩
      · exact hV.same (Nat.le_of_eq (set4_size wr (w.heap.size + 1) _ _ _ _).symm) fun k hk => set4_same _ _ _ _ _ _ _ (by have := hrp k hk; omega)
      · exact set4_below (HB1.out.trans (hb.mono (Nat.le_of_lt hxb))) (Nat.le_succ _) _ _ _ _
end Go.Proofs.Ytmkheikllbjcbaa
