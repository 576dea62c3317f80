/-
  The walk of polderlaw07.CodeLess: it returns true, and writes nothing that was there.
-/
import Derived.Test.YtpalgadokdcgnaaKs
namespace Go.Proofs.Ytpalgadokdcgnaa
set_option maxRecDepth 100000
open Go.RowKit Go.Shelf M
attribute [local go_sem] Oper.semAt_some

/-- While tries come: how many have come, and what is still looked at. -/
structure LessI (w w9 : World) (B cn gg og n c k : Nat) (kk : Int) (s : ByteArray) (i : Nat) (X : World) : Prop where
  since : Since B w9 X
  below : Below w.heap.size w X
  tx : X.cell? ⟨w.heap.size + 2, 0, none⟩ = some (.string s)
  r : X.cell? ⟨w.heap.size + 3, 0, none⟩ = some (.bool false)
  rf : X.frozen? ⟨w.heap.size + 3, 0, none⟩ = false
  c0 : X.cell? ⟨w.heap.size, 0, none⟩ = some (.slice (some ⟨gg, og, none⟩) n c)
  p0 : X.cell? ⟨w.heap.size + 1, 0, none⟩ = some (.int .i64 (k : Int))
  e0 : X.cell? ⟨gg, og + k * 2, none⟩ = some (.int .i64 kk)
  cnt : X.cell? ⟨cn, 0, none⟩ = some (.int .i64 (i : Int))
  cf : X.frozen? ⟨cn, 0, none⟩ = false
theorem LessI.within {w w9 : World} {B cn gg og n c k : Nat} {kk : Int} {s : ByteArray} {i : Nat} {X Y : World} (h : LessI w w9 B cn gg og n c k kk s i X) (hb : Below w9.heap.size X Y) (h1 : w.heap.size + 3 < cn) (h2 : cn < w9.heap.size) (h3 : gg < cn) : LessI w w9 B cn gg og n c k kk s i Y :=
  ⟨h.since.below hb, h.below.trans (hb.mono (by omega)), (hb.cell (p := ⟨w.heap.size + 2, 0, none⟩) (by show w.heap.size + 2 < _; omega)).trans h.tx, (hb.cell (p := ⟨w.heap.size + 3, 0, none⟩) (by show w.heap.size + 3 < _; omega)).trans h.r, (hb.frozen (p := ⟨w.heap.size + 3, 0, none⟩) (by show w.heap.size + 3 < _; omega)).trans h.rf,
    (hb.cell (p := ⟨w.heap.size, 0, none⟩) (by show w.heap.size < _; omega)).trans h.c0, (hb.cell (p := ⟨w.heap.size + 1, 0, none⟩) (by show w.heap.size + 1 < _; omega)).trans h.p0, (hb.cell (p := ⟨gg, og + k * 2, none⟩) (by show gg < _; omega)).trans h.e0,
    (hb.cell (p := ⟨cn, 0, none⟩) h2).trans h.cnt, (hb.frozen (p := ⟨cn, 0, none⟩) h2).trans h.cf⟩
theorem LessI.count {w w9 : World} {B cn gg og n c k : Nat} {kk : Int} {s : ByteArray} {i : Nat} {X : World} (h : LessI w w9 B cn gg og n c k kk s i X) (h1 : w.heap.size + 3 < cn) (h2 : cn < B) (h3 : gg < cn) (m : Int) (hm : m = ((i + 1 : Nat) : Int)) : LessI w w9 B cn gg og n c k kk s (i + 1) (X.setCell ⟨cn, 0, none⟩ (.int .i64 m)) := by
  subst hm
  refine ⟨h.since.setCell (p := ⟨cn, 0, none⟩) h2 _, h.below.setCell (p := ⟨cn, 0, none⟩) (by show w.heap.size ≤ cn; omega) _, ?_, ?_, ?_, ?_, ?_, ?_, ?_, ?_⟩
  · rw [World.cell?_setCell_other _ _ _ _ (by intro e; cases e; omega)]; exact h.tx
  · rw [World.cell?_setCell_other _ _ _ _ (by intro e; cases e; omega)]; exact h.r
  · rw [World.frozen?_setCell]; exact h.rf
  · rw [World.cell?_setCell_other _ _ _ _ (by intro e; cases e; omega)]; exact h.c0
  · rw [World.cell?_setCell_other _ _ _ _ (by intro e; cases e; omega)]; exact h.p0
  · rw [World.cell?_setCell_other _ _ _ _ (by intro e; have e' := congrArg Addr.block e; dsimp only at e'; omega)]; exact h.e0
  · rw [World.cell?_setCell_same _ _ _ h.cnt]
  · rw [World.frozen?_setCell]; exact h.cf
/-- A function that told its answer in the box at b, behind a range over a function. -/
theorem told_at {w X : World} {D b : Nat} {x : Bool} (hw : w.heap.size ≤ b) (hD : b < D) (hB : Below w.heap.size w X) (hr : X.cell? ⟨b, 0, none⟩ = some (.bool false)) (hK : X.heap[D]? = some (.deferred (some []))) :
    (X.setCell ⟨b, 0, none⟩ (.bool x)).heap[D]? = some (.deferred (some [])) ∧ Below w.heap.size w ((X.setCell ⟨b, 0, none⟩ (.bool x)).putObj D (.deferred none)) ∧ ((X.setCell ⟨b, 0, none⟩ (.bool x)).putObj D (.deferred none)).cell? ⟨b, 0, none⟩ = some (.bool x) := by
  have h1 : (X.setCell ⟨b, 0, none⟩ (.bool x)).heap[D]? = some (.deferred (some [])) := (Below.heap_setCell _ _ _ _ (by show D ≠ b; omega)).trans hK
  have h2 : Below w.heap.size w (X.setCell ⟨b, 0, none⟩ (.bool x)) := hB.setCell (p := ⟨b, 0, none⟩) hw _
  refine ⟨h1, below_putObj h2 (by omega) _, ?_⟩
  rw [(below_putObj (Below.refl D _) (Nat.le_refl D) (.deferred none)).cell (p := ⟨b, 0, none⟩) hD, World.cell?_setCell_same _ _ _ hr]

theorem Enc7.triesLen {l : List (Int × Int)} {sc : Int} {k t z : Nat} {s : ByteArray} {kk : Int} {u : Nat} {L : List C} {f : Nat → ByteArray} (h : Enc7 l sc k t z s kk u L f) {G : List ByteArray} (hS : Mis L f G) : (triesOf l sc k t z G).length ≤ 40 := by
  rw [h.tries hS.len (hS.sizes h)]
  split
  · rename_i h0
    unfold triesM
    refine Nat.le_trans (List.length_filterMap_le _ _) ?_
    rw [List.length_range]
    have := (h.mir h0).2.2.2
    omega
  · unfold triesP
    refine Nat.le_trans (List.length_filterMap_le _ _) ?_
    rw [List.length_cons]
    have h1 := devsS_le ((datL L).map C.dev)
    rw [List.length_map] at h1
    have h2 : (datL L).length ≤ L.length := by unfold datL; exact List.length_filter_le _ _
    have := h.few.2
    omega

set_option maxHeartbeats 16000000 in
theorem walk_CodeLess (v : Value) (l : List (Int × Int)) (sc k t : Int) (s : ByteArray) (am : Option Addr) (nm cm : Nat) (zm : List Int) (w : World) (h : Meas w v l sc) (hk : I64 k) (ht : I64 t) (hs : s.size ≤ maxLen) (hm : IsRow .u8 w am nm cm zm) :
    Calls Try.prog 6 #[v, .agg #[.int .i64 k, .int .i64 t], .string s, .slice am nm cm] w fun e w' => e = .returned (.bool true) ∧ Below w.heap.size w w' := by
  have hml := hm.len_le
  have K1 := h
  obtain ⟨a, n, c, rfl, hg⟩ := id h
  replace K1 := Lib.hid (HQ.start k t s K1)
  have HI := Lib.hid hk
  have HT := Lib.hid ht
  have HM := Lib.hid hm
  unfold maxLen at hs hml
  clear h hg hk ht hm
  refine (callsIn_wide (n := 5)).1 ?_
  refine callsIn_of_wp_marks Try.func6 rfl trivial (wpIn_wide.2 ?_) rfl
  simp only [Try.ntmps6, List.size_toArray, List.length_cons, List.length_nil, Nat.reduceAdd, Nat.reduceSub, Array.replicate_succ, Array.replicate_zero, List.push_toArray, List.append_toArray, List.nil_append, List.cons_append]
  go_wp2_with fail
  refine (cawake_any _).mono ?_
  rintro e w1 ⟨rfl, c1⟩
  have K2 := Lib.hid (K1.out.next c1)
  clear c1 K1
  have k0 := K2.out.h.h.c0
  have k1 := K2.out.h.h.c1
  go_wp2_with fail
  refine (cfew_any l sc _ _ K2.out.h.h.m [] _ ⟨none, 0, rfl, Nat.le_refl _, fun j hj => absurd hj (Nat.not_lt_zero _)⟩ (by decide) (fun s hs => by cases hs)).mono ?_
  rintro e w2 ⟨v2, rfl, ⟨b, rfl, -⟩, c2⟩
  have K3 := Lib.hid (K2.out.next c2)
  clear c2 K2 k0 k1
  have ktx := K3.out.tx
  by_cases hgo : b = true ∧ s.size ≤ 1000 ∧ nm ≤ 50
  · obtain ⟨rfl, hs1, hn50⟩ := hgo
    have k0 := K3.out.h.h.c0
    have k1 := K3.out.h.h.c1
    have p0 := K3.out.h.p0
    have p1 := K3.out.h.p1
    go_wp2_with fail
    refine (encode_any l sc _ _ K3.out.h.h.m k t HI.out HT.out s hs1).mono ?_
    rintro e w4 ⟨v4, er, rfl, he, c4⟩
    have K5 := Lib.hid (K3.out.next c4)
    have HC4 := Lib.hid c4
    clear c4 k0 k1 p0 p1 ktx
    have k0 := K5.out.h.h.c0
    have k1 := K5.out.h.h.c1
    have p0 := K5.out.h.p0
    have p1 := K5.out.h.p1
    have ktx := K5.out.tx
    have kr := K5.out.r
    have krf := K5.out.rf
    rcases he with ⟨hmay, rfl, rfl⟩ | ⟨k', t', z', rfl, rfl, hsz, hB, rfl, hO4⟩
    · go_wp2
      refine ⟨.bool true, ?_, rfl, K5.out.h.h.below.setCell (p := ⟨w.heap.size + 3, 0, none⟩) (by show w.heap.size ≤ w.heap.size + 3; omega) _⟩
      simp [results, Try.f6, go_sem, kr]
    · obtain ⟨kk, u, hE⟩ := hB.enc7 hsz
      rw [hE.enc] at hO4
      have HOF := Lib.hid (of_ok l sc _ _ K5.out.h.h.m k' t' z' hB)
      generalize hL : colsOf l k' t' z' = L at hE hO4 HOF
      generalize (fun i => sect s (i % z')) = f at hE hO4
      obtain ⟨hm0, hm32⟩ := hE.few
      have hEl := encL_len L f
      obtain ⟨m, hm⟩ : ∃ m, L.length = m := ⟨_, rfl⟩
      rw [hm] at hm0 hm32 hEl
      have HE := Lib.hid hE
      have HML := Lib.hid hm
      obtain ⟨a4, cc4, e4, -⟩ := hO4.txt
      rw [hEl] at e4
      subst e4
      obtain ⟨g4, rfl, hg4B, hg4, _, hcc4, _, _⟩ := hO4.at_ (by omega)
      have hcz : z' ≤ 4 := hB.z4
      have hcz1 := hB.z1
      have q4 : Int.tdiv (s.size : Int) 64 = (z' : Int) := by rw [Int.tdiv_eq_ediv_of_nonneg (by omega)]; omega
      have HO4 := Lib.hid hO4
      clear hO4 hE hB hL hEl hm hsz
      go_wp2_with fail
      refine HOF.out.mono ?_
      rintro e w6 ⟨v6, rfl, hO6, c6⟩
      obtain ⟨g6, cc6, rfl, hcc6, hg6B, hA6⟩ := OwnC.some hO6 (by rw [HML.out]; exact hm0)
      rw [HML.out] at hcc6 ⊢
      have HA6 := Lib.hid hA6
      have HX6 : Hid (∃ G, Own w6 w2.heap.size (.slice (some ⟨g4, 0, none⟩) m cc4) G ∧ Mis L f G) := Lib.hid ⟨_, HO4.out.below c6, Mis.start L f⟩
      have HC6 := Lib.hid (next HC4.out c6)
      have hs6 := c6.size
      clear hO6 hA6 c6 K5 k0 k1 p0 p1 ktx kr krf
      have r3 : ¬ (m : Int) = 0 := by omega
      have r4 : ((m : Int) == 0) = false := by simp; omega
      go_wp2_with fail
      go_loopw [13] (fun i13 wr => ∃ i : Nat, i ≤ nm ∧ i13 = .int .i64 (i : Int) ∧ Hid (∃ G, Own wr w2.heap.size (.slice (some ⟨g4, 0, none⟩) m cc4) G ∧ Mis L f G) ∧ Hid (ColsAt wr g6 L) ∧ Hid (Below w2.heap.size w2 wr)) (fun i _ => nm - (intOf i).toNat)
      case atStart => exact ⟨0, Nat.zero_le _, rfl, HX6, HA6, HC6⟩
      case round =>
        obtain ⟨i, hi, rfl, HX, HA, HW⟩ := hrel
        clear HX6 HA6 HC6
        by_cases him : i < nm
        · obtain ⟨go, oo, rfl, hgo, hzc, hzw⟩ := HM.out.at_ i him
          obtain ⟨zi, hzi⟩ : ∃ zi, zm.getD i 0 = zi := ⟨_, rfl⟩
          rw [hzi] at hzc hzw
          obtain ⟨z0, z1⟩ : 0 ≤ zi ∧ zi ≤ 255 := by simpa [Lit.wf, IntKind.min, IntKind.max, IntKind.signed, IntKind.bits] using hzw
          obtain ⟨Z, rfl⟩ := Int.eq_ofNat_of_zero_le z0
          have hzc' := ((HW.out.mono K3.out.h.h.below.size).cell (p := ⟨go, oo + i, none⟩) hgo).trans ((K3.out.h.h.below.cell (p := ⟨go, oo + i, none⟩) hgo).trans hzc)
          obtain ⟨q, hq⟩ : ∃ q, Z % m = q := ⟨_, rfl⟩
          have hqm : q < m := by rw [← hq]; exact Nat.mod_lt _ hm0
          have r1 : Int.tmod (Z : Int) (m : Int) = (q : Int) := by rw [Int.tmod_eq_emod_of_nonneg (by omega), ← hq]; rfl
          obtain ⟨G, hOG, hSG⟩ := HX.out
          obtain ⟨g4', e4', _, hg4w, hGl, _, hfz, hcl⟩ := hOG.at_ (by omega)
          cases e4'
          have hci := hcl q (by rw [hGl]; exact hqm)
          have hfi := hfz q hqm
          generalize G[q]'(by rw [hGl]; exact hqm) = yold at hci
          have HOS := Lib.hid (hOG.set q hqm ⟨#[]⟩)
          have HSS := Lib.hid (hSG.set (i := q) (by rw [HML.out]; exact hqm))
          have HAS := Lib.hid (HA.out.set (p := ⟨g4, q, none⟩) (by show g4 ≠ g6; omega) (.string ⟨#[]⟩))
          have HWS := Lib.hid (HW.out.setCell (p := ⟨g4, q, none⟩) hg4B (.string ⟨#[]⟩))
          have hcmn : nm ≤ cm := by
            rcases HM.out with ⟨h1, _⟩ | ⟨x, _, h1, _⟩
            · cases h1
            · exact h1
          clear hOG hSG HX hfz hcl hGl hzi hzc hzw hq
          go_wp2
          go_roundw
          case rel => exact ⟨i + 1, by omega, by go_num, Lib.hid ⟨_, HOS.out, HSS.out⟩, HAS, HWS⟩
          case measure => simp [intOf]; omega
        · obtain rfl : i = nm := by omega
          obtain ⟨G, hOG, hSG⟩ := HX.out
          have KA := Lib.hid (K3.out.next HW.out)
          obtain ⟨g4', e4', _, hg4w, hGl, _, _, hcl⟩ := hOG.at_ (by omega)
          cases e4'
          have HGC := Lib.hid hcl
          have HGL := Lib.hid hGl
          have HOG := Lib.hid hOG
          have HSG := Lib.hid hSG
          obtain ⟨mir, hmir⟩ : ∃ b, (kk == 0) = b := ⟨_, rfl⟩
          have HMR := Lib.hid hmir
          have hkl := HE.out.blk.hk
          have hlk : l[k'] = (kk, (u : Int)) := by rw [← getD_at hkl]; exact HE.out.kind.grp
          have hnl := KA.out.h.h.len
          have hkn : k' < n := by rw [← hnl.1]; exact hkl
          have hn9 := hnl.2
          have hk4 := HE.out.blk.bounds.2
          obtain ⟨gg, og, rfl, hlt, e0, e1⟩ := KA.out.h.h.at_ hkl hlk
          dsimp only at e0 e1
          have HK0 := Lib.hid e0
          clear hOG hSG HX hcl hGl hnl hkl hlk e0 e1
          generalize hwA : wr = wA at *
          clear hwA
          go_wp2_with fail
          go_loopw [14, 15, 16] (fun t14 t15 i16 wr => ∃ (i W H : Nat), i ≤ m ∧ W ≤ m ∧ H ≤ i ∧ t14 = .int .i64 (W : Int) ∧ t15 = .int .i64 (H : Int) ∧ i16 = .int .i64 (i : Int) ∧ Hid (2 ≤ W → ∃ a, a < m ∧ 2 ≤ missTo L G mir a m) ∧ Hid (0 < H ↔ ∃ a, a < i ∧ missTo L G mir a m = 0) ∧ Hid (Below wA.heap.size wA wr)) (fun _ _ i _ => m - (intOf i).toNat)
          case atStart => exact ⟨0, 0, 0, Nat.zero_le _, Nat.zero_le _, Nat.le_refl _, rfl, rfl, rfl, Lib.hid (fun h => by omega), Lib.hid ⟨fun h => by omega, fun ⟨a, h, _⟩ => by omega⟩, Lib.hid (Below.refl _ _)⟩
          case round =>
            obtain ⟨i, Wn, Hn, hi, hWm, hHi, rfl, rfl, rfl, HP1, HP2, HV⟩ := hrel
            by_cases him : i < m
            · go_wp2_with fail
              rename World => wB
              go_loopw [17, 18] (fun t17 i18 wr => ∃ j N : Nat, j ≤ m ∧ N ≤ j ∧ t17 = .int .i64 (N : Int) ∧ i18 = .int .i64 (j : Int) ∧ Hid (missTo L G mir i j = N) ∧ Hid (Below wB.heap.size wB wr)) (fun _ i _ => m - (intOf i).toNat)
              case atStart => exact ⟨0, 0, Nat.zero_le _, Nat.le_refl _, rfl, rfl, Lib.hid rfl, Lib.hid (Below.refl _ _)⟩
              case round =>
                obtain ⟨j, N, hj, hNj, rfl, rfl, HN, HU⟩ := hrel
                have HVU := Lib.hid (next HV.out HU.out)
                have hsv := HVU.out.size
                by_cases hjm : j < m
                · have KV := Lib.hid (KA.out.next HVU.out)
                  have c0 := KV.out.h.h.c0
                  have p0 := KV.out.h.p0
                  have e0 := (HVU.out.cell (p := ⟨gg, og + k' * 2, none⟩) hlt).trans HK0.out
                  have hjL : j < L.length := by rw [HML.out]; exact hjm
                  have hiL : i < L.length := by rw [HML.out]; exact him
                  obtain ⟨x, hx⟩ : ∃ x, L[j] = x := ⟨_, rfl⟩
                  obtain ⟨x', hx'⟩ : ∃ x', L[i] = x' := ⟨_, rfl⟩
                  have hAv := HA.out.next HVU.out
                  have hCx := hAv.at_ j hjL
                  have hCx' := hAv.at_ i hiL
                  rw [hx] at hCx
                  rw [hx'] at hCx'
                  obtain ⟨d0, d1, d2, d3⟩ := hCx
                  obtain ⟨f0, f1, f2, f3⟩ := hCx'
                  have hg6w := hAv.lt
                  obtain ⟨y, hy⟩ : ∃ y, G[j]'(by rw [HGL.out]; exact hjm) = y := ⟨_, rfl⟩
                  have hyc := (HVU.out.cell (p := ⟨g4, j, none⟩) hg4w).trans (HGC.out j (by rw [HGL.out]; exact hjm))
                  rw [hy] at hyc
                  have hg4v : g4 < wr.heap.size := by omega
                  have HIH : Hid (isHole G j = (y.size == 0)) := Lib.hid (by unfold isHole; rw [getD_some ⟨_, hy⟩])
                  have HSM : Hid ((if mir then devAt L j == devAt L i else rowAt L j == rowAt L i) = if mir then x.dev == x'.dev else x.row == x'.row) := Lib.hid (by rw [devAt_eq hjL, devAt_eq hiL, rowAt_eq hjL, rowAt_eq hiL, hx, hx'])
                  have HNX : Hid (missTo L G mir i (j + 1) = N + if (y.size == 0) && (if mir then x.dev == x'.dev else x.row == x'.row) then 1 else 0) := Lib.hid (by
                    unfold missTo
                    rw [idx_succ, List.length_append, HIH.out, HSM.out]
                    have := HN.out
                    unfold missTo at this
                    have hgen : ∀ b : Bool, (if b then [j] else ([] : List Nat)).length = if b then 1 else 0 := fun b => by cases b <;> rfl
                    rw [this, hgen])
                  have hqe := empty_txt y
                  clear hx hx' hy hjL hiL hAv HIH HSM
                  cases hh : (y.size == 0) with
                  | false =>
                    rw [hh] at hqe HNX
                    have HN1 : Hid (missTo L G mir i (j + 1) = N) := Lib.hid (by rw [HNX.out]; rfl)
                    clear hh HNX
                    go_wp2_with fail
                    go_quiet (fail)
                    go_wp2
                    go_roundw
                    case rel => exact ⟨j + 1, N, by omega, by omega, rfl, by go_num, HN1, Lib.hid (below_drewN HU.out _)⟩
                    case measure => simp [intOf]; omega
                  | true =>
                    rw [hh] at hqe HNX
                    clear hh
                    cases mir with
                    | true =>
                      cases hsd : (x.dev == x'.dev) with
                      | false =>
                        have HN1 : Hid (missTo L G true i (j + 1) = N) := Lib.hid (by rw [HNX.out, hsd]; rfl)
                        clear HNX
                        go_wp2_with fail
                        go_quiet (fail)
                        go_wp2
                        go_roundw
                        case rel => exact ⟨j + 1, N, by omega, by omega, rfl, by go_num, HN1, Lib.hid (below_drewN HU.out _)⟩
                        case measure => simp [intOf]; omega
                      | true =>
                        have HN1 : Hid (missTo L G true i (j + 1) = N + 1) := Lib.hid (by rw [HNX.out, hsd]; rfl)
                        clear HNX
                        go_wp2_with fail
                        go_quiet (fail)
                        go_wp2
                        go_roundw
                        case rel => exact ⟨j + 1, N + 1, by omega, by omega, by go_num, by go_num, HN1, Lib.hid (below_drewN HU.out _)⟩
                        case measure => simp [intOf]; omega
                    | false =>
                      cases hsd : (x.row == x'.row) with
                      | false =>
                        have HN1 : Hid (missTo L G false i (j + 1) = N) := Lib.hid (by rw [HNX.out, hsd]; rfl)
                        clear HNX
                        go_wp2_with fail
                        go_quiet (fail)
                        go_wp2
                        go_roundw
                        case rel => exact ⟨j + 1, N, by omega, by omega, rfl, by go_num, HN1, Lib.hid (below_drewN HU.out _)⟩
                        case measure => simp [intOf]; omega
                      | true =>
                        have HN1 : Hid (missTo L G false i (j + 1) = N + 1) := Lib.hid (by rw [HNX.out, hsd]; rfl)
                        clear HNX
                        go_wp2_with fail
                        go_quiet (fail)
                        go_wp2
                        go_roundw
                        case rel => exact ⟨j + 1, N + 1, by omega, by omega, by go_num, by go_num, HN1, Lib.hid (below_drewN HU.out _)⟩
                        case measure => simp [intOf]; omega
                · obtain rfl : j = m := by omega
                  have HP1n : Hid (2 ≤ N → ∃ a, a < j ∧ 2 ≤ missTo L G mir a j) := Lib.hid fun h => ⟨i, him, by rw [HN.out]; exact h⟩
                  by_cases hN0 : N = 0
                  · have hnb : ((N : Int) == 0) = true := by simp; omega
                    have HP2n : Hid (0 < Hn + 1 ↔ ∃ a, a < i + 1 ∧ missTo L G mir a j = 0) := Lib.hid ⟨fun _ => ⟨i, by omega, by rw [HN.out]; exact hN0⟩, fun _ => by omega⟩
                    by_cases hWN : Wn < N
                    · omega
                    · go_wp2
                      go_roundw
                      case rel => exact ⟨i + 1, Wn, Hn + 1, by omega, hWm, by omega, by first | rfl | go_num, by go_num, by go_num, HP1, HP2n, HVU⟩
                      case measure => simp [intOf]; omega
                  · have hnb : ((N : Int) == 0) = false := by simp; omega
                    have HP2n : Hid (0 < Hn ↔ ∃ a, a < i + 1 ∧ missTo L G mir a j = 0) := Lib.hid (by
                      rw [HP2.out]
                      constructor
                      · rintro ⟨a, h1, h2⟩; exact ⟨a, by omega, h2⟩
                      · rintro ⟨a, h1, h2⟩
                        by_cases e : a = i
                        · subst e; rw [HN.out] at h2; exact absurd h2 hN0
                        · exact ⟨a, by omega, h2⟩)
                    by_cases hWN : Wn < N
                    · go_wp2
                      go_roundw
                      case rel => exact ⟨i + 1, N, Hn, by omega, by omega, by omega, by first | rfl | go_num, rfl, by go_num, HP1n, HP2n, HVU⟩
                      case measure => simp [intOf]; omega
                    · go_wp2
                      go_roundw
                      case rel => exact ⟨i + 1, Wn, Hn, by omega, hWm, by omega, by first | rfl | go_num, rfl, by go_num, HP1, HP2n, HVU⟩
                      case measure => simp [intOf]; omega
            · obtain rfl : i = m := by omega
              have K9 := Lib.hid (KA.out.next HV.out)
              have HTX : Hid (∀ y ∈ triesOf l sc k' t' z' G, y.2 = s) := Lib.hid (by
                rcases HE.out.kind.ok with h | h
                · exact (HE.out.lessM h.1 HSG.out).1
                · exact HE.out.lessP h.1 HSG.out)
              have HEN : Hid (mir = true → (0 < (triesOf l sc k' t' z' G).length ↔ 0 < Hn)) := Lib.hid fun hmt => by
                rw [HP2.out]
                rcases HE.out.kind.ok with h | h
                · have := (HE.out.lessM h.1 HSG.out).2
                  rw [HML.out] at this
                  rw [hmt]
                  exact this
                · have : mir = false := by rw [← HMR.out, h.1]; rfl
                  rw [this] at hmt
                  cases hmt
              have HLN : Hid ((triesOf l sc k' t' z' G).length ≤ 40) := Lib.hid (HE.out.triesLen HSG.out)
              have HEP : Hid (mir = false → 2 ≤ Wn → (triesOf l sc k' t' z' G).length = 0) := Lib.hid fun hmf hW => by
                rcases HE.out.kind.ok with h | h
                · have : mir = true := by rw [← HMR.out, h.1]; rfl
                  rw [this] at hmf
                  cases hmf
                · obtain ⟨a, ha, h2⟩ := HP1.out hW
                  rw [hmf] at h2
                  obtain ⟨x, y, hx, hy, hxy, hhx, hhy, hsx, hsy⟩ := miss_two h2
                  rw [HE.out.noneP h.1 HSG.out (by rw [HML.out]; exact hx) (by rw [HML.out]; exact hy) hxy ((beq_iff_eq.1 hsx).trans (beq_iff_eq.1 hsy).symm) hhx hhy]
                  rfl
              have b10 := boxed wr (.cells #[.int .i64 0] 3)
              have K10 := Lib.hid (K9.out.next b10)
              have HTR := Lib.hid (tries_any l sc _ _ K10.out.h.h.m k' t' z' HI.out HT.out ⟨by omega, by omega⟩ G _ ((HOG.out.txt.below HV.out).below b10) (by rw [HGL.out]; omega))
              have k0 := K10.out.h.h.c0
              have k1 := K10.out.h.h.c1
              have p0 := K10.out.h.p0
              have p1 := K10.out.h.p1
              have ktx : (wr.alloc (.cells #[.int .i64 0] 3)).cell? ⟨w.heap.size + 1 + 1, 0, none⟩ = some (.string s) := K10.out.tx
              have hcn : (wr.alloc (.cells #[.int .i64 0] 3)).cell? ⟨wr.heap.size, 0, none⟩ = some (.int .i64 0) := box_now _ _ _ rfl
              have hcf : (wr.alloc (.cells #[.int .i64 0] 3)).frozen? ⟨wr.heap.size, 0, none⟩ = false := World.frozen?_alloc_at _ _ _ _ rfl
              have e0 := (b10.cell (p := ⟨gg, og + k' * 2, none⟩) (by show gg < wr.heap.size; have := HV.out.size; omega)).trans ((HV.out.cell (p := ⟨gg, og + k' * 2, none⟩) hlt).trans HK0.out)
              have hlt10 := K9.out.lt
              have hgw : gg < wr.heap.size := by have := HV.out.size; omega
              clear b10 HP1 HP2
              go_wp2_with fail
              refine HTR.out.mono ?_
              rintro e w9 ⟨v9, rfl, hS9, c9⟩
              obtain ⟨gf, lb, rfl, eg, hH⟩ := hS9
              rw [World.size_alloc] at c9 hH
              have hs9 := c9.size
              rw [World.size_alloc] at hs9
              have K11 := K10.out.next (by rw [World.size_alloc]; exact c9)
              have HA9 : Hid (LessI w w9 (wr.heap.size + 1) wr.heap.size gg og n c k' kk s 0 w9) := Lib.hid ⟨Since.refl _ _, K11.h.h.below, K11.tx, K11.r, K11.rf, K11.h.h.c0, K11.h.p0,
                (c9.cell (p := ⟨gg, og + k' * 2, none⟩) (by show gg < _; omega)).trans e0, (c9.cell (p := ⟨wr.heap.size, 0, none⟩) (by show wr.heap.size < _; omega)).trans hcn, (c9.frozen (p := ⟨wr.heap.size, 0, none⟩) (by show wr.heap.size < _; omega)).trans hcf⟩
              have HEG := Lib.hid eg
              have HHH := Lib.hid hH
              generalize triesOf l sc k' t' z' G = xs at HTX HEN HEP HLN HHH
              generalize wr.heap.size = cn at HA9 HHH hlt10 hs9 hgw
              clear eg hH c9 k0 k1 p0 p1 ktx hcn hcf e0 K11 K10 K9 HTR
              go_wp2_with fail
              refine (wpIn_wide (n := 5)).1 ?_
              refine wpIn_range_second 149 150 22 rfl (by decide) rfl trivial HEG.out (fun x : Int × ByteArray => .int .i64 x.1) (fun x => .string x.2) (HHH.out _ (by decide)) (Since.refl _ _) rfl
                (fun i W => LessI w w9 (cn + 1) cn gg og n c k' kk s i W)
                (fun _ _ _ => False)
                (fun i X Y h hb => h.within hb hlt10 (by omega) hgw)
                (fun _ _ _ _ h _ => h)
                (fun i X h => h.since)
                HA9.out ?assign ?body ?done ?stop
              case assign =>
                intro l y W
                gi_wp2
                exact ⟨rfl, trivial⟩
              case body =>
                intro l i y W hy hL
                simp only [List.setIfInBounds_toArray, List.set_cons_succ, List.set_cons_zero]
                have HL := Lib.hid hL
                have hyt := HTX.out y (List.mem_of_getElem? hy)
                have hiX : i < xs.length := (List.getElem?_eq_some_iff.1 hy).1
                have ktx : W.cell? ⟨w.heap.size + 1 + 1, 0, none⟩ = some (.string s) := hL.tx
                have kc := hL.cnt
                have kf := hL.cf
                obtain ⟨yd, yt⟩ := y
                dsimp only at hyt ⊢
                subst hyt
                have hib : i ≤ 40 := by have := HLN.out; omega
                clear hL hy
                gi_wp2
                exact ⟨(Since.refl _ _).setCell (p := ⟨cn, 0, none⟩) (by show cn < _; omega) _, HL.out.count hlt10 (by omega) hgw _ (by omega)⟩
              case done =>
                intro D W hD hL hK
                have kr : W.cell? ⟨w.heap.size + 1 + 1 + 1, 0, none⟩ = some (.bool false) := hL.r
                have krf : W.frozen? ⟨w.heap.size + 1 + 1 + 1, 0, none⟩ = false := hL.rf
                have kc := hL.cnt
                have c0 := hL.c0
                have p0 := hL.p0
                have e0 := hL.e0
                have HBW := Lib.hid hL.below
                have HR := Lib.hid hL.r
                clear hL
                obtain ⟨X, hX⟩ : ∃ X, xs.length = X := ⟨_, rfl⟩
                rw [hX] at kc
                have HXX := Lib.hid hX
                clear hX
                rcases HE.out.kind.ok with ⟨hk0, -⟩ | ⟨hk1, -⟩
                · have hmt : mir = true := by rw [← HMR.out, hk0]; rfl
                  have hiff := HEN.out hmt
                  rw [HXX.out] at hiff
                  subst hk0
                  by_cases hX0 : 0 < X
                  · have hH0 : 0 < Hn := hiff.1 hX0
                    have hd1 : decide ((0 : Int) < (X : Int)) = true := decide_eq_true (by omega)
                    have hd2 : decide ((0 : Int) < (Hn : Int)) = true := decide_eq_true (by omega)
                    have hd3 : (decide (0 < X) == decide (0 < Hn)) = true := by rw [decide_eq_true hX0, decide_eq_true hH0]; rfl
                    clear hiff hX0 hH0
                    go_wp2
                    obtain ⟨hK', hB', hr'⟩ := told_at (x := true) (show w.heap.size ≤ w.heap.size + 3 by omega) (show w.heap.size + 3 < D by omega) HBW.out HR.out hK
                    refine ⟨by simp, .inl ⟨_, _, rfl, run_takeDeferred hK', ?_⟩⟩
                    refine ⟨.bool true, ?_, rfl, hB'⟩
                    simp [results, Try.f6, go_sem, hr']
                  · have hH0 : ¬ 0 < Hn := fun h => hX0 (hiff.2 h)
                    have hd1 : decide ((0 : Int) < (X : Int)) = false := decide_eq_false (by omega)
                    have hd2 : decide ((0 : Int) < (Hn : Int)) = false := decide_eq_false (by omega)
                    have hd3 : (decide (0 < X) == decide (0 < Hn)) = true := by rw [decide_eq_false hX0, decide_eq_false hH0]; rfl
                    clear hiff hX0 hH0
                    go_wp2
                    obtain ⟨hK', hB', hr'⟩ := told_at (x := true) (show w.heap.size ≤ w.heap.size + 3 by omega) (show w.heap.size + 3 < D by omega) HBW.out HR.out hK
                    refine ⟨by simp, .inl ⟨_, _, rfl, run_takeDeferred hK', ?_⟩⟩
                    refine ⟨.bool true, ?_, rfl, hB'⟩
                    simp [results, Try.f6, go_sem, hr']
                · have hmf : mir = false := by rw [← HMR.out, hk1]; rfl
                  have himp := HEP.out hmf
                  rw [HXX.out] at himp
                  subst hk1
                  by_cases hW2 : Wn < 2
                  · have hd1 : decide ((Wn : Int) < 2) = true := decide_eq_true (by omega)
                    clear himp
                    go_wp2
                    obtain ⟨hK', hB', hr'⟩ := told_at (x := true) (show w.heap.size ≤ w.heap.size + 3 by omega) (show w.heap.size + 3 < D by omega) HBW.out HR.out hK
                    refine ⟨by simp, .inl ⟨_, _, rfl, run_takeDeferred hK', ?_⟩⟩
                    refine ⟨.bool true, ?_, rfl, hB'⟩
                    simp [results, Try.f6, go_sem, hr']
                  · have hX0 := himp (by omega)
                    subst hX0
                    have hd1 : decide ((Wn : Int) < 2) = false := decide_eq_false (by omega)
                    clear himp
                    go_wp2
                    obtain ⟨hK', hB', hr'⟩ := told_at (x := true) (show w.heap.size ≤ w.heap.size + 3 by omega) (show w.heap.size + 3 < D by omega) HBW.out HR.out hK
                    refine ⟨by simp, .inl ⟨_, _, rfl, run_takeDeferred hK', ?_⟩⟩
                    refine ⟨.bool true, ?_, rfl, hB'⟩
                    simp [results, Try.f6, go_sem, hr']
              case stop =>
                rintro D c k W _ _ h _
                exact h.elim
  · cases b with
    | false =>
      go_wp2_with fail
      refine (cawake_any _).mono ?_
      rintro e w4 ⟨rfl, c4⟩
      have K5 := Lib.hid (K3.out.next c4)
      have kr := K5.out.r
      have krf := K5.out.rf
      go_wp2
      refine ⟨.bool true, ?_, rfl, K5.out.h.h.below.setCell (p := ⟨w.heap.size + 3, 0, none⟩) (by show w.heap.size ≤ w.heap.size + 3; omega) _⟩
      simp [results, Try.f6, go_sem, kr]
    | true =>
      by_cases hs1 : s.size ≤ 1000
      · have hn50 : ¬ nm ≤ 50 := fun h => hgo ⟨rfl, hs1, h⟩
        go_wp2_with fail
        refine (cawake_any _).mono ?_
        rintro e w4 ⟨rfl, c4⟩
        have K5 := Lib.hid (K3.out.next c4)
        have kr := K5.out.r
        have krf := K5.out.rf
        go_wp2
        refine ⟨.bool true, ?_, rfl, K5.out.h.h.below.setCell (p := ⟨w.heap.size + 3, 0, none⟩) (by show w.heap.size ≤ w.heap.size + 3; omega) _⟩
        simp [results, Try.f6, go_sem, kr]
      · go_wp2_with fail
        refine (cawake_any _).mono ?_
        rintro e w4 ⟨rfl, c4⟩
        have K5 := Lib.hid (K3.out.next c4)
        have kr := K5.out.r
        have krf := K5.out.rf
        go_wp2
        refine ⟨.bool true, ?_, rfl, K5.out.h.h.below.setCell (p := ⟨w.heap.size + 3, 0, none⟩) (by show w.heap.size ≤ w.heap.size + 3; omega) _⟩
        simp [results, Try.f6, go_sem, kr]
end Go.Proofs.Ytpalgadokdcgnaa
