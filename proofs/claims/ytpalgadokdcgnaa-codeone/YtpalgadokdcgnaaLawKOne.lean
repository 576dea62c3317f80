/-
  The walk of polderlaw07.CodeOne: it returns true, and writes nothing that was there.
-/
import Derived.Test.YtpalgadokdcgnaaKr
import Derived.Test.YtpalgadokdcgnaaCs
import Derived.Test.YtpalgadokdcgnaaMd
namespace Go.Proofs.Ytpalgadokdcgnaa
set_option maxRecDepth 100000
open Go.RowKit Go.Shelf M
attribute [local go_sem] Oper.semAt_some

/-- What the answer's box, and the text's, hold while tries come. -/
structure QR (w X : World) (s : ByteArray) : Prop where
  below : Below w.heap.size w X
  tx : X.cell? ⟨w.heap.size + 2, 0, none⟩ = some (.string s)
  r : X.cell? ⟨w.heap.size + 3, 0, none⟩ = some (.bool false)
  rf : X.frozen? ⟨w.heap.size + 3, 0, none⟩ = false
theorem HQ.qr {w0 w : World} {a : Option Addr} {n c : Nat} {sc : Int} {l : List (Int × Int)} {k t : Int} {s : ByteArray} (h : HQ w0 w a n c sc l k t s) : QR w0 w s := ⟨h.h.h.below, h.tx, h.r, h.rf⟩
theorem QR.within {w X Y : World} {s : ByteArray} {B : Nat} (h : QR w X s) (hb : Below B X Y) (hB : w.heap.size + 3 < B) : QR w Y s :=
  ⟨h.below.trans (hb.mono (by omega)), (hb.cell (p := ⟨w.heap.size + 2, 0, none⟩) (by show w.heap.size + 2 < B; omega)).trans h.tx, (hb.cell (p := ⟨w.heap.size + 3, 0, none⟩) hB).trans h.r, (hb.frozen (p := ⟨w.heap.size + 3, 0, none⟩) hB).trans h.rf⟩
/-- While tries come: none so far is the text. -/
structure OneI (w w9 : World) (B : Nat) (s : ByteArray) (xs : List (Int × ByteArray)) (i : Nat) (X : World) : Prop where
  since : Since B w9 X
  q : QR w X s
  none : ∀ j y, j < i → xs[j]? = some y → y.2 ≠ s
theorem OneI.within {w w9 : World} {B : Nat} {s : ByteArray} {xs : List (Int × ByteArray)} {i : Nat} {X Y : World} (h : OneI w w9 B s xs i X) (hb : Below w9.heap.size X Y) (h9 : w.heap.size + 3 < w9.heap.size) : OneI w w9 B s xs i Y :=
  ⟨h.since.below hb, h.q.within hb h9, h.none⟩

set_option maxHeartbeats 8000000 in
theorem walk_CodeOne (v : Value) (l : List (Int × Int)) (sc k t : Int) (s : ByteArray) (dev : Int) (ao : Option Addr) (no co : Nat) (w : World) (h : Meas w v l sc) (hk : I64 k) (ht : I64 t) (hs : s.size ≤ maxLen) (hdev : (Lit.int .u8 dev).wf = true)
    (ho : ∃ o : List ByteArray, Txt w (.slice ao no co) o ∧ no ≤ maxLen ∧ ∀ s ∈ o, s.size ≤ maxLen) :
    Calls Try.prog 3 #[v, .agg #[.int .i64 k, .int .i64 t], .string s, .int .u8 dev, .slice ao no co] w fun e w' => e = .returned (.bool true) ∧ Below w.heap.size w w' := by
  obtain ⟨a0, a1⟩ : 0 ≤ dev ∧ dev ≤ 255 := by simpa [Lit.wf, IntKind.min, IntKind.max, IntKind.signed, IntKind.bits] using hdev
  obtain ⟨O, hO, hno, hoz⟩ := ho
  clear hdev
  obtain ⟨A, rfl⟩ := Int.eq_ofNat_of_zero_le a0
  have K1 := h
  obtain ⟨a, n, c, rfl, hg⟩ := id h
  replace K1 := Lib.hid (HQ.start k t s K1)
  have HI := Lib.hid hk
  have HT := Lib.hid ht
  have HO := Lib.hid hO
  have HOL := Lib.hid hO.len
  have HOZ := Lib.hid hoz
  have HNO := Lib.hid hno
  unfold maxLen at hs hno
  clear h hg hk ht hO hoz
  refine (callsIn_wide (n := 5)).1 ?_
  refine callsIn_of_wp_marks Try.func3 rfl trivial (wpIn_wide.2 ?_) rfl
  simp only [Try.ntmps3, List.size_toArray, List.length_cons, List.length_nil, Nat.reduceAdd, Nat.reduceSub, Array.replicate_succ, Array.replicate_zero, List.push_toArray, List.append_toArray, List.nil_append, List.cons_append]
  go_wp2_with fail
  refine (cawake_any _).mono ?_
  rintro e w1 ⟨rfl, c1⟩
  have K2 := Lib.hid (K1.out.next c1)
  clear c1 K1
  have k0 := K2.out.h.h.c0
  have k1 := K2.out.h.h.c1
  go_wp2_with fail
  refine (cfew_any l sc _ _ K2.out.h.h.m O _ (HO.out.below K2.out.h.h.below) (by rw [HOL.out]; exact HNO.out) HOZ.out).mono ?_
  rintro e w2 ⟨v2, rfl, ⟨b, rfl, hfew⟩, c2⟩
  have K3 := Lib.hid (K2.out.next c2)
  clear c2 K2 k0 k1
  by_cases hgo : b = true ∧ s.size ≤ 1000
  · obtain ⟨rfl, hs1⟩ := hgo
    obtain ⟨hl100, hz1000⟩ := hfew rfl
    rw [HOL.out] at hl100
    have HZO := Lib.hid hz1000
    clear hfew hz1000
    have k0 := K3.out.h.h.c0
    have k1 := K3.out.h.h.c1
    have p0 := K3.out.h.p0
    have p1 := K3.out.h.p1
    have ktx := K3.out.tx
    go_wp2_with fail
    refine (encode_any l sc _ _ K3.out.h.h.m k t HI.out HT.out s hs1).mono ?_
    rintro e w4 ⟨v4, er, rfl, he, c4⟩
    have K5 := Lib.hid (K3.out.next c4)
    have HC4 := Lib.hid c4
    clear c4 k0 k1 p0 p1 ktx
    have k0 := K5.out.h.h.c0
    have k1 := K5.out.h.h.c1
    have p0 := K5.out.h.p0
    have p1 := K5.out.h.p1
    have ktx := K5.out.tx
    have kr := K5.out.r
    have krf := K5.out.rf
    rcases he with ⟨hmay, rfl, rfl⟩ | ⟨k', t', z', rfl, rfl, hsz, hB, rfl, hO4⟩
    · have q4 : Int.tdiv (s.size : Int) 64 = ((s.size / 64 : Nat) : Int) := by rw [Int.tdiv_eq_ediv_of_nonneg (by omega)]; omega
      have HOF := Lib.hid (of_any l sc _ _ K5.out.h.h.m k t ((s.size / 64 : Nat) : Int) HI.out HT.out ⟨by omega, by omega⟩)
      have hq1 : s.size / 64 ≤ 1000 := by omega
      generalize s.size / 64 = z0 at q4 HOF hq1
      go_wp2_with fail
      refine HOF.out.mono ?_
      rintro e w6 ⟨v6, er6, rfl, ho6, c6⟩
      obtain ⟨a6, n6, cc6, rfl⟩ : ∃ a n c, v6 = .slice a n c := by
        rcases ho6 with ⟨_, rfl, _⟩ | ⟨_, _, _, _, _, _, _, _, hO6⟩
        · exact ⟨_, _, _, rfl⟩
        · obtain ⟨a, c, e⟩ := hO6.none
          exact ⟨_, _, _, e⟩
      have K6 := Lib.hid (K5.out.next c6)
      have kr := K6.out.r
      have krf := K6.out.rf
      clear ho6 c6
      go_wp2
      refine ⟨.bool true, ?_, rfl, K6.out.h.h.below.setCell (p := ⟨w.heap.size + 3, 0, none⟩) (by show w.heap.size ≤ w.heap.size + 3; omega) _⟩
      simp [results, Try.f3, go_sem, kr]
    · obtain ⟨kk, u, hE⟩ := hB.enc7 hsz
      rw [hE.enc] at hO4
      have HOF := Lib.hid (of_ok l sc _ _ K5.out.h.h.m k' t' z' hB)
      generalize hL : colsOf l k' t' z' = L at hE hO4 HOF
      generalize (fun i => sect s (i % z')) = f at hE hO4
      obtain ⟨hm0, hm32⟩ := hE.few
      have hEl := encL_len L f
      obtain ⟨m, hm⟩ : ∃ m, L.length = m := ⟨_, rfl⟩
      rw [hm] at hm0 hm32 hEl
      have HEL := Lib.hid hEl
      have HE := Lib.hid hE
      have HML := Lib.hid hm
      obtain ⟨a4, cc4, e4, -⟩ := hO4.txt
      rw [hEl] at e4
      subst e4
      obtain ⟨g4, rfl, hg4B, hg4, _, hcc4, _, _⟩ := hO4.at_ (by omega)
      have hcz : z' ≤ 4 := hB.z4
      have hcz1 := hB.z1
      have q4 : Int.tdiv (s.size : Int) 64 = (z' : Int) := by rw [Int.tdiv_eq_ediv_of_nonneg (by omega)]; omega
      have HO4 := Lib.hid hO4
      clear hO4 hE hB hL hEl hm hsz
      go_wp2_with fail
      refine HOF.out.mono ?_
      rintro e w6 ⟨v6, rfl, hO6, c6⟩
      obtain ⟨g6, cc6, rfl, hcc6, hg6B, hA6⟩ := OwnC.some hO6 (by rw [HML.out]; exact hm0)
      rw [HML.out] at hcc6 ⊢
      have HA6 := Lib.hid hA6
      have HO6 := Lib.hid (HO4.out.below c6)
      have K6 := Lib.hid (K5.out.next c6)
      have HC6 := Lib.hid (next HC4.out c6)
      have hs6 := c6.size
      clear hO6 hA6 c6 K5 k0 k1 p0 p1 ktx kr krf
      obtain ⟨hh, p0, p1, plt⟩ := K6.out.h
      have hkl := HE.out.blk.hk
      have hlk : l[k'] = (kk, (u : Int)) := by rw [← getD_at hkl]; exact HE.out.kind.grp
      have hnl := hh.len
      have hkn : k' < n := by rw [← hnl.1]; exact hkl
      have hn9 := hnl.2
      have hk4 := HE.out.blk.bounds.2
      obtain ⟨gg, og, rfl, hlt, e0, e1⟩ := hh.at_ hkl hlk
      have c0 := hh.c0
      have hclt := hh.lt
      dsimp only at e0 e1
      have hfr := HE.out.blk.right
      obtain ⟨fst, hfst⟩ : ∃ x, aheadL l k' = x := ⟨_, rfl⟩
      have hfb := hfr.bounds k' (Nat.le_of_lt hkl)
      rw [hfst] at hfb
      have HFST := Lib.hid hfst
      have hu : 1 ≤ u ∧ u ≤ 8 := by rcases HE.out.kind.ok with ⟨_, h1, h2, _⟩ | ⟨_, h1, h2, _⟩ <;> omega
      obtain ⟨hu1, hu8⟩ := hu
      have CF : Hid (∀ q : Ext w6, Calls Try.prog 12 #[.agg #[.slice (some ⟨gg, og, none⟩) n c, .int .i64 sc], .int .i64 (k' : Int)] q.v fun e w' => e = .returned (.int .i64 fst) ∧ ∃ q' : Ext w6, w' = q'.v) :=
        Lib.hid (Ext.calls fun w' hb => refFirst_any l sc _ _ (K6.out.next hb).h.h.m HE.out.blk.right k' (Nat.le_of_lt HE.out.blk.hk) fst HFST.out)
      have kk01 : kk = 0 ∨ kk = 1 := by rcases HE.out.kind.ok with h | h; exact .inl h.1; exact .inr h.1
      clear hnl hkl hlk hfr hfst hh
      obtain ⟨dn, hdn⟩ : ∃ dn, A % u = dn := ⟨_, rfl⟩
      have hdu : dn < u := by rw [← hdn]; exact Nat.mod_lt _ hu1
      have r1 : Int.tmod (A : Int) (u : Int) = (dn : Int) := by rw [Int.tmod_eq_emod_of_nonneg (by omega), ← hdn]; rfl
      have r3 : ¬ (u : Int) = 0 := by omega
      have r4 : ((u : Int) == 0) = false := by simp; omega
      obtain ⟨d, hd⟩ : ∃ d, fst + (dn : Int) = d := ⟨_, rfl⟩
      have r5 : IntKind.i64.wrap (fst + (dn : Int)) = d := by rw [IntKind.wrap_i64]; omega
      have r6 : IntKind.i64.wrap (dn : Int) = (dn : Int) := by rw [IntKind.wrap_i64]; omega
      obtain ⟨qq, hqq⟩ : ∃ qq, Int.tdiv (A : Int) (u : Int) = qq := ⟨_, rfl⟩
      obtain ⟨mir, hmir⟩ : ∃ b, (kk == 0) = b := ⟨_, rfl⟩
      have HD := Lib.hid hd
      have HMR := Lib.hid hmir
      clear hdn hd
      go_wp2_with fail
      have g0 := fun q : Ext w6 => q.cell K6.out.h.h.c0 K6.out.h.h.lt
      have g1 := fun q : Ext w6 => q.cell K6.out.h.h.c1 K6.out.h.h.lt
      have g2 := fun q : Ext w6 => q.cell K6.out.h.p0 K6.out.h.plt
      have g3 := fun q : Ext w6 => q.cell e1 hlt
      haveI hne : Nonempty (Ext w6) := Ext.some w6
      refine wp_region_family (Ext.v (W := w6)) (by kernel_rfl) (by kernel_rfl) ⟨⟨_, (Below.refl _ w6).drew⟩, rfl⟩ ?_
      repeat (go_big_quiet_step (first | (go_at_call 12; exact CF.out _)))
      refine wpQuiet_nil ?_
      rintro w7 ⟨⟨w8, h8⟩, e8⟩
      have e8' : w8 = w7 := e8.symm
      clear e8
      subst e8'
      have HX8 : Hid (∃ G, Own w8 w2.heap.size (.slice (some ⟨g4, 0, none⟩) m cc4) G ∧ Spo L f d mir G) := Lib.hid ⟨_, HO6.out.below h8, Spo.start L f d mir⟩
      have HA8 := Lib.hid (HA6.out.next h8)
      have HC8 := Lib.hid (next HC6.out h8)
      clear g0 g1 g2 g3 hne CF h8 HO6 HA6 HC6 e0 e1 c0 p0 p1
      go_wp2_with fail
      go_loopw [17] (fun i17 wr => ∃ i : Nat, i ≤ m ∧ i17 = .int .i64 (i : Int) ∧ Hid (∃ G, Own wr w2.heap.size (.slice (some ⟨g4, 0, none⟩) m cc4) G ∧ Spo L f d mir G) ∧ Hid (ColsAt wr g6 L) ∧ Hid (Below w2.heap.size w2 wr)) (fun i _ => m - (intOf i).toNat)
      case atStart => exact ⟨0, Nat.zero_le _, rfl, HX8, HA8, HC8⟩
      case round =>
        obtain ⟨i, hi, rfl, HX, HA, HW⟩ := hrel
        clear HX8 HA8 HC8
        by_cases him : i < m ∧ i < no
        · obtain ⟨him, hin⟩ := him
          have hiL : i < L.length := by rw [HML.out]; exact him
          have hiO : i < O.length := by rw [HOL.out]; exact hin
          obtain ⟨x, hx⟩ : ∃ x, L[i] = x := ⟨_, rfl⟩
          have hCx := HA.out.at_ i hiL
          rw [hx] at hCx
          obtain ⟨e0, e1, e2, e3⟩ := hCx
          obtain ⟨y, hy⟩ : ∃ y, O[i] = y := ⟨_, rfl⟩
          obtain ⟨go, oo, co', eo, hco, hgo, hjo⟩ := HO.out.isSome (by omega)
          rw [HOL.out] at eo
          cases eo
          have hyc := ((HW.out.mono K3.out.h.h.below.size).cell (p := ⟨go, oo + i, none⟩) hgo).trans ((K3.out.h.h.below.cell (p := ⟨go, oo + i, none⟩) hgo).trans (hjo i hiO))
          rw [hy] at hyc
          have hys : y.size ≤ 1000 := by rw [← hy]; exact HZO.out _ (List.getElem_mem hiO)
          have HDX : Hid (devAt L i = x.dev) := Lib.hid (by rw [devAt_eq hiL, hx])
          have HIL := Lib.hid hiL
          rw [HOL.out] at hco
          obtain ⟨G, hOG, hSG⟩ := HX.out
          have HOG := Lib.hid hOG
          have HSG := Lib.hid hSG
          clear hx hy hiL hiO hjo hOG hSG HX
          cases hb1 : (x.dev == d) with
          | false =>
            cases mir with
            | false =>
              go_wp2
              go_roundw
              case rel => exact ⟨i + 1, by omega, by go_num, Lib.hid ⟨G, HOG.out, HSG.out⟩, HA, HW⟩
              case measure => simp [intOf]; omega
            | true =>
              have HBB : Hid (((devAt L i == d) != true) = true) := Lib.hid (by rw [HDX.out, hb1]; rfl)
              by_cases hy0 : y.size = 0
              · have hyb : ((y.size : Int) == 0) = true := by simp [hy0]
                have hOG := HOG.out
                obtain ⟨g4', e4', _, hg4w, hGl, _, hfz, hcl⟩ := hOG.at_ (by omega)
                cases e4'
                have hci := hcl i (by rw [hGl]; exact him)
                have hfi := hfz i him
                generalize G[i]'(by rw [hGl]; exact him) = yold at hci
                have HOS := Lib.hid (hOG.set i him y)
                have HSS := Lib.hid (HSG.out.set HIL.out (y := y) HBB.out (by omega))
                have HAS := Lib.hid (HA.out.set (p := ⟨g4, i, none⟩) (by show g4 ≠ g6; omega) (.string y))
                have HWS := Lib.hid (HW.out.setCell (p := ⟨g4, i, none⟩) hg4B (.string y))
                clear hOG hfz hcl hGl
                go_wp2
                go_roundw
                case rel => exact ⟨i + 1, by omega, by go_num, Lib.hid ⟨_, HOS.out, HSS.out⟩, HAS, HWS⟩
                case measure => simp [intOf]; omega
              · have hyb : ((y.size : Int) == 0) = false := beq_eq_false_iff_ne.2 (by omega)
                by_cases hy64 : y.size = 64
                · have hyc64 : ((y.size : Int) == 64) = true := by simp; omega
                  have hOG := HOG.out
                  obtain ⟨g4', e4', _, hg4w, hGl, _, hfz, hcl⟩ := hOG.at_ (by omega)
                  cases e4'
                  have hci := hcl i (by rw [hGl]; exact him)
                  have hfi := hfz i him
                  generalize G[i]'(by rw [hGl]; exact him) = yold at hci
                  have HOS := Lib.hid (hOG.set i him y)
                  have HSS := Lib.hid (HSG.out.set HIL.out (y := y) HBB.out (by omega))
                  have HAS := Lib.hid (HA.out.set (p := ⟨g4, i, none⟩) (by show g4 ≠ g6; omega) (.string y))
                  have HWS := Lib.hid (HW.out.setCell (p := ⟨g4, i, none⟩) hg4B (.string y))
                  clear hOG hfz hcl hGl
                  go_wp2
                  go_roundw
                  case rel => exact ⟨i + 1, by omega, by go_num, Lib.hid ⟨_, HOS.out, HSS.out⟩, HAS, HWS⟩
                  case measure => simp [intOf]; omega
                · have hyc64 : ((y.size : Int) == 64) = false := by simp; omega
                  go_wp2
                  go_roundw
                  case rel => exact ⟨i + 1, by omega, by go_num, Lib.hid ⟨G, HOG.out, HSG.out⟩, HA, HW⟩
                  case measure => simp [intOf]; omega
          | true =>
            cases mir with
            | true =>
              go_wp2
              go_roundw
              case rel => exact ⟨i + 1, by omega, by go_num, Lib.hid ⟨G, HOG.out, HSG.out⟩, HA, HW⟩
              case measure => simp [intOf]; omega
            | false =>
              have HBB : Hid (((devAt L i == d) != false) = true) := Lib.hid (by rw [HDX.out, hb1]; rfl)
              by_cases hy0 : y.size = 0
              · have hyb : ((y.size : Int) == 0) = true := by simp [hy0]
                have hOG := HOG.out
                obtain ⟨g4', e4', _, hg4w, hGl, _, hfz, hcl⟩ := hOG.at_ (by omega)
                cases e4'
                have hci := hcl i (by rw [hGl]; exact him)
                have hfi := hfz i him
                generalize G[i]'(by rw [hGl]; exact him) = yold at hci
                have HOS := Lib.hid (hOG.set i him y)
                have HSS := Lib.hid (HSG.out.set HIL.out (y := y) HBB.out (by omega))
                have HAS := Lib.hid (HA.out.set (p := ⟨g4, i, none⟩) (by show g4 ≠ g6; omega) (.string y))
                have HWS := Lib.hid (HW.out.setCell (p := ⟨g4, i, none⟩) hg4B (.string y))
                clear hOG hfz hcl hGl
                go_wp2
                go_roundw
                case rel => exact ⟨i + 1, by omega, by go_num, Lib.hid ⟨_, HOS.out, HSS.out⟩, HAS, HWS⟩
                case measure => simp [intOf]; omega
              · have hyb : ((y.size : Int) == 0) = false := beq_eq_false_iff_ne.2 (by omega)
                by_cases hy64 : y.size = 64
                · have hyc64 : ((y.size : Int) == 64) = true := by simp; omega
                  have hOG := HOG.out
                  obtain ⟨g4', e4', _, hg4w, hGl, _, hfz, hcl⟩ := hOG.at_ (by omega)
                  cases e4'
                  have hci := hcl i (by rw [hGl]; exact him)
                  have hfi := hfz i him
                  generalize G[i]'(by rw [hGl]; exact him) = yold at hci
                  have HOS := Lib.hid (hOG.set i him y)
                  have HSS := Lib.hid (HSG.out.set HIL.out (y := y) HBB.out (by omega))
                  have HAS := Lib.hid (HA.out.set (p := ⟨g4, i, none⟩) (by show g4 ≠ g6; omega) (.string y))
                  have HWS := Lib.hid (HW.out.setCell (p := ⟨g4, i, none⟩) hg4B (.string y))
                  clear hOG hfz hcl hGl
                  go_wp2
                  go_roundw
                  case rel => exact ⟨i + 1, by omega, by go_num, Lib.hid ⟨_, HOS.out, HSS.out⟩, HAS, HWS⟩
                  case measure => simp [intOf]; omega
                · have hyc64 : ((y.size : Int) == 64) = false := by simp; omega
                  go_wp2
                  go_roundw
                  case rel => exact ⟨i + 1, by omega, by go_num, Lib.hid ⟨G, HOG.out, HSG.out⟩, HA, HW⟩
                  case measure => simp [intOf]; omega
        · by_cases him2 : i < m
          · have hin : ¬ i < no := fun h => him ⟨him2, h⟩
            clear him
            have K9 := Lib.hid (K3.out.next HW.out)
            obtain ⟨G, hOG, hSG⟩ := HX.out
            have HEX : Hid (∃ x, (x, s) ∈ triesOf l sc k' t' z' G) := Lib.hid (by
              rcases kk01 with h0 | h1
              · have hmt : mir = true := by rw [← HMR.out, h0]; rfl
                rw [hmt, ← HD.out, ← HFST.out] at hSG
                exact HE.out.oneM h0 hdu hSG
              · have hmf : mir = false := by rw [← HMR.out, h1]; rfl
                rw [hmf] at hSG
                exact HE.out.oneP h1 hSG)
            have HTR := Lib.hid (tries_any l sc _ wr K9.out.h.h.m k' t' z' HI.out HT.out ⟨by omega, by omega⟩ G _ hOG.txt (by rw [hSG.len, HML.out]; omega))
            have k0 := K9.out.h.h.c0
            have k1 := K9.out.h.h.c1
            have p0 := K9.out.h.p0
            have p1 := K9.out.h.p1
            have ktx : wr.cell? ⟨w.heap.size + 1 + 1, 0, none⟩ = some (.string s) := K9.out.tx
            clear hOG hSG HX HA
            go_wp2_with fail
            refine HTR.out.mono ?_
            rintro e w9 ⟨v9, rfl, hS9, c9⟩
            obtain ⟨gf, lb, rfl, eg, hH⟩ := hS9
            have hlt9 := K9.out.lt
            have hs9 := c9.size
            have HA9 : Hid (OneI w w9 wr.heap.size s (triesOf l sc k' t' z' G) 0 w9) := Lib.hid ⟨Since.refl _ _, (K9.out.next c9).qr, fun j y hj => absurd hj (Nat.not_lt_zero _)⟩
            have HEG := Lib.hid eg
            have HHH := Lib.hid hH
            generalize triesOf l sc k' t' z' G = xs at HEX HA9 HHH
            generalize hBw : wr.heap.size = Bw at HA9 HHH hlt9 hs9
            clear eg hH c9 k0 k1 p0 p1 ktx hBw K9 HTR HW
            go_wp2_with fail
            refine (wpIn_wide (n := 5)).1 ?_
            refine wpIn_range_second 138 139 19 rfl (by decide) rfl trivial HEG.out (fun x : Int × ByteArray => .int .i64 x.1) (fun x => .string x.2) (HHH.out _ (by decide)) (Since.refl _ _) rfl
              (fun i W => OneI w w9 Bw s xs i W)
              (fun cd _ W => cd = .ret ∧ Below w.heap.size w W ∧ W.cell? ⟨w.heap.size + 3, 0, none⟩ = some (.bool true) ∧ w.heap.size + 3 < w9.heap.size)
              (fun i X Y h hb => h.within hb (by omega))
              (fun cd i X Y h hb => ⟨h.1, h.2.1.trans (hb.mono (by omega)), (hb.cell (p := ⟨w.heap.size + 3, 0, none⟩) h.2.2.2).trans h.2.2.1, h.2.2.2⟩)
              (fun i X h => h.since)
              HA9.out ?assign ?body ?done ?stop
            case assign =>
              intro l y W
              gi_wp2
              exact ⟨rfl, trivial⟩
            case body =>
              intro l i y W hy hL
              simp only [List.setIfInBounds_toArray, List.set_cons_succ, List.set_cons_zero]
              have HL := Lib.hid hL
              have HYY := Lib.hid hy
              have ktx : W.cell? ⟨w.heap.size + 1 + 1, 0, none⟩ = some (.string s) := hL.q.tx
              have kr : W.cell? ⟨w.heap.size + 1 + 1 + 1, 0, none⟩ = some (.bool false) := hL.q.r
              have krf : W.frozen? ⟨w.heap.size + 1 + 1 + 1, 0, none⟩ = false := hL.q.rf
              obtain ⟨yd, yt⟩ := y
              dsimp only
              clear hL hy
              by_cases hyt : yt = s
              · have hq : (yt.toList == s.toList) = true := by rw [hyt]; simp
                clear hyt
                gi_wp2
                refine ⟨(Since.refl _ _).setCell (p := ⟨w.heap.size + 3, 0, none⟩) (by show w.heap.size + 3 < _; omega) _, rfl, HL.out.q.below.setCell (p := ⟨w.heap.size + 3, 0, none⟩) (by show w.heap.size ≤ w.heap.size + 3; omega) _, ?_, by omega⟩
                exact World.cell?_setCell_same _ _ _ kr
              · have hq : (yt.toList == s.toList) = false := by
                  rw [beq_eq_false_iff_ne]; exact fun e => hyt (eq_of_toList e)
                have HYT := Lib.hid hyt
                clear hyt
                gi_wp2
                exact ⟨Since.refl _ _, HL.out.since, HL.out.q, fun j y' hj hy' => by
                  by_cases e : j = i
                  · subst e
                    rw [HYY.out] at hy'
                    cases hy'
                    exact HYT.out
                  · exact HL.out.none j y' (by omega) hy'⟩
            case done =>
              intro D W hD hL hK
              exfalso
              obtain ⟨x, hx⟩ := HEX.out
              obtain ⟨j, hj, e⟩ := List.getElem_of_mem hx
              exact hL.none j (x, s) hj (by rw [List.getElem?_eq_getElem hj, e]) rfl
            case stop =>
              rintro D cd i W hD _ ⟨rfl, hBW, hrW, hlW⟩ hK
              gi_wp2
              have hB' := below_putObj hBW (show w.heap.size ≤ D by omega) (.deferred none)
              have hr' : (W.putObj D (.deferred none)).cell? ⟨w.heap.size + 3, 0, none⟩ = some (.bool true) := by
                rw [(below_putObj (Below.refl D _) (Nat.le_refl D) (.deferred none)).cell (p := ⟨w.heap.size + 3, 0, none⟩) (by show w.heap.size + 3 < D; omega)]; exact hrW
              refine ⟨by simp, .inl ⟨_, _, rfl, run_takeDeferred hK, ?_⟩⟩
              refine ⟨.bool true, ?_, rfl, hB'⟩
              simp [results, Try.f3, go_sem, hr']
          · obtain rfl : i = m := by omega
            clear him
            have K9 := Lib.hid (K3.out.next HW.out)
            obtain ⟨G, hOG, hSG⟩ := HX.out
            have HEX : Hid (∃ x, (x, s) ∈ triesOf l sc k' t' z' G) := Lib.hid (by
              rcases kk01 with h0 | h1
              · have hmt : mir = true := by rw [← HMR.out, h0]; rfl
                rw [hmt, ← HD.out, ← HFST.out] at hSG
                exact HE.out.oneM h0 hdu hSG
              · have hmf : mir = false := by rw [← HMR.out, h1]; rfl
                rw [hmf] at hSG
                exact HE.out.oneP h1 hSG)
            have HTR := Lib.hid (tries_any l sc _ wr K9.out.h.h.m k' t' z' HI.out HT.out ⟨by omega, by omega⟩ G _ hOG.txt (by rw [hSG.len, HML.out]; omega))
            have k0 := K9.out.h.h.c0
            have k1 := K9.out.h.h.c1
            have p0 := K9.out.h.p0
            have p1 := K9.out.h.p1
            have ktx : wr.cell? ⟨w.heap.size + 1 + 1, 0, none⟩ = some (.string s) := K9.out.tx
            clear hOG hSG HX HA
            go_wp2_with fail
            refine HTR.out.mono ?_
            rintro e w9 ⟨v9, rfl, hS9, c9⟩
            obtain ⟨gf, lb, rfl, eg, hH⟩ := hS9
            have hlt9 := K9.out.lt
            have hs9 := c9.size
            have HA9 : Hid (OneI w w9 wr.heap.size s (triesOf l sc k' t' z' G) 0 w9) := Lib.hid ⟨Since.refl _ _, (K9.out.next c9).qr, fun j y hj => absurd hj (Nat.not_lt_zero _)⟩
            have HEG := Lib.hid eg
            have HHH := Lib.hid hH
            generalize triesOf l sc k' t' z' G = xs at HEX HA9 HHH
            generalize hBw : wr.heap.size = Bw at HA9 HHH hlt9 hs9
            clear eg hH c9 k0 k1 p0 p1 ktx hBw K9 HTR HW
            go_wp2_with fail
            refine (wpIn_wide (n := 5)).1 ?_
            refine wpIn_range_second 138 139 19 rfl (by decide) rfl trivial HEG.out (fun x : Int × ByteArray => .int .i64 x.1) (fun x => .string x.2) (HHH.out _ (by decide)) (Since.refl _ _) rfl
              (fun i W => OneI w w9 Bw s xs i W)
              (fun cd _ W => cd = .ret ∧ Below w.heap.size w W ∧ W.cell? ⟨w.heap.size + 3, 0, none⟩ = some (.bool true) ∧ w.heap.size + 3 < w9.heap.size)
              (fun i X Y h hb => h.within hb (by omega))
              (fun cd i X Y h hb => ⟨h.1, h.2.1.trans (hb.mono (by omega)), (hb.cell (p := ⟨w.heap.size + 3, 0, none⟩) h.2.2.2).trans h.2.2.1, h.2.2.2⟩)
              (fun i X h => h.since)
              HA9.out ?assign ?body ?done ?stop
            case assign =>
              intro l y W
              gi_wp2
              exact ⟨rfl, trivial⟩
            case body =>
              intro l i y W hy hL
              simp only [List.setIfInBounds_toArray, List.set_cons_succ, List.set_cons_zero]
              have HL := Lib.hid hL
              have HYY := Lib.hid hy
              have ktx : W.cell? ⟨w.heap.size + 1 + 1, 0, none⟩ = some (.string s) := hL.q.tx
              have kr : W.cell? ⟨w.heap.size + 1 + 1 + 1, 0, none⟩ = some (.bool false) := hL.q.r
              have krf : W.frozen? ⟨w.heap.size + 1 + 1 + 1, 0, none⟩ = false := hL.q.rf
              obtain ⟨yd, yt⟩ := y
              dsimp only
              clear hL hy
              by_cases hyt : yt = s
              · have hq : (yt.toList == s.toList) = true := by rw [hyt]; simp
                clear hyt
                gi_wp2
                refine ⟨(Since.refl _ _).setCell (p := ⟨w.heap.size + 3, 0, none⟩) (by show w.heap.size + 3 < _; omega) _, rfl, HL.out.q.below.setCell (p := ⟨w.heap.size + 3, 0, none⟩) (by show w.heap.size ≤ w.heap.size + 3; omega) _, ?_, by omega⟩
                exact World.cell?_setCell_same _ _ _ kr
              · have hq : (yt.toList == s.toList) = false := by
                  rw [beq_eq_false_iff_ne]; exact fun e => hyt (eq_of_toList e)
                have HYT := Lib.hid hyt
                clear hyt
                gi_wp2
                exact ⟨Since.refl _ _, HL.out.since, HL.out.q, fun j y' hj hy' => by
                  by_cases e : j = i
                  · subst e
                    rw [HYY.out] at hy'
                    cases hy'
                    exact HYT.out
                  · exact HL.out.none j y' (by omega) hy'⟩
            case done =>
              intro D W hD hL hK
              exfalso
              obtain ⟨x, hx⟩ := HEX.out
              obtain ⟨j, hj, e⟩ := List.getElem_of_mem hx
              exact hL.none j (x, s) hj (by rw [List.getElem?_eq_getElem hj, e]) rfl
            case stop =>
              rintro D cd i W hD _ ⟨rfl, hBW, hrW, hlW⟩ hK
              gi_wp2
              have hB' := below_putObj hBW (show w.heap.size ≤ D by omega) (.deferred none)
              have hr' : (W.putObj D (.deferred none)).cell? ⟨w.heap.size + 3, 0, none⟩ = some (.bool true) := by
                rw [(below_putObj (Below.refl D _) (Nat.le_refl D) (.deferred none)).cell (p := ⟨w.heap.size + 3, 0, none⟩) (by show w.heap.size + 3 < D; omega)]; exact hrW
              refine ⟨by simp, .inl ⟨_, _, rfl, run_takeDeferred hK, ?_⟩⟩
              refine ⟨.bool true, ?_, rfl, hB'⟩
              simp [results, Try.f3, go_sem, hr']
  · cases b with
    | false =>
      go_wp2_with fail
      refine (cawake_any _).mono ?_
      rintro e w4 ⟨rfl, c4⟩
      have K5 := Lib.hid (K3.out.next c4)
      have kr := K5.out.r
      have krf := K5.out.rf
      go_wp2
      refine ⟨.bool true, ?_, rfl, K5.out.h.h.below.setCell (p := ⟨w.heap.size + 3, 0, none⟩) (by show w.heap.size ≤ w.heap.size + 3; omega) _⟩
      simp [results, Try.f3, go_sem, kr]
    | true =>
      have hs1 : ¬ s.size ≤ 1000 := fun h => hgo ⟨rfl, h⟩
      have ktx := K3.out.tx
      go_wp2_with fail
      refine (cawake_any _).mono ?_
      rintro e w4 ⟨rfl, c4⟩
      have K5 := Lib.hid (K3.out.next c4)
      have kr := K5.out.r
      have krf := K5.out.rf
      go_wp2
      refine ⟨.bool true, ?_, rfl, K5.out.h.h.below.setCell (p := ⟨w.heap.size + 3, 0, none⟩) (by show w.heap.size ≤ w.heap.size + 3; omega) _⟩
      simp [results, Try.f3, go_sem, kr]
end Go.Proofs.Ytpalgadokdcgnaa
