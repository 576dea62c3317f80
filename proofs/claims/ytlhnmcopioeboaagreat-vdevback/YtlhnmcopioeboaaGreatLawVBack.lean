/-
  The walk of polderlaw08.VdevBack: it returns true, and writes nothing that was there.
-/
import Derived.Test.YtlhnmcopioeboaaGreatMh
namespace Go.Proofs.YtlhnmcopioeboaaGreat
set_option maxRecDepth 100000
open Go.RowKit Go.Shelf Go.Maps M
attribute [local go_sem] Oper.semAt_some

theorem open_bools {H : Type} {enc : TypeId × Value → H} {W : World} {a : Option Addr} {len cap : Nat} {d : DataW H} {ps : List MemPlace}
    (h : DataW.Trod enc Tryz.prog W 0 (fun _ => true) true 27 (.slice a len cap) d ps) : ∃ f : Nat → Bool, Bl W a len f := by
  obtain ⟨fuel, hf⟩ := h
  have hC : Tryz.prog.cellsOf 4 = 1 := by kernel_rfl
  obtain ⟨hl, hi⟩ := slice_elems (P := Tryz.prog) Tryz.underlying27 (by rw [hC]; omega) hf
  have hone : ∀ i, i < len → ∃ (b : Bool) (g o : Nat), a = some ⟨g, o, none⟩ ∧ g < W.heap.size ∧ W.cell? ⟨g, o + i, none⟩ = some (.bool b) := fun i hlt => by
    obtain ⟨g, o, cs, n, y, rfl, hb, hlen, hcell, ht⟩ := hi i hlt
    rw [hC] at hlen hcell
    match cs, hlen with
    | [c0], _ =>
      have h0 := hcell 0 (by omega)
      rw [Nat.mul_one, Nat.add_zero] at h0
      obtain ⟨b, hb0, _⟩ := DataW.trod_bool Tryz.underlying4 ht
      simp at hb0
      subst hb0
      exact ⟨b, g, o, rfl, hb, h0⟩
  refine ⟨fun i => if h : i < len then Classical.choose (hone i h) else false, hl, fun i hlt => ?_⟩
  have hx := Classical.choose_spec (hone i hlt)
  simp only [dif_pos hlt]
  obtain ⟨g, o, h1, h2, h3⟩ := hx
  exact ⟨g, o, h1, h2, h3⟩
theorem blAt {B : Nat} {W : World} {g n c : Nat} {L : List Bool} (h : OwnBl B W (.slice (some ⟨g, 0, none⟩) n c) L) (i : Nat) (hi : i < L.length) : W.cell? ⟨g, i, none⟩ = some (.bool (L.getD i false)) ∧ g < W.heap.size := by
  have hcells := fun g hg => World.ownsRow.cells (g := g) h hg
  rcases h.2 with ⟨e, _⟩ | ⟨g', cap, cur, e, hB, hg, _⟩
  · cases e
  · simp only [Value.slice.injEq, Option.some.injEq, Addr.mk.injEq, and_true] at e
    obtain ⟨rfl, _⟩ := e
    have := hcells g rfl i (.bool L[i]) (by rw [List.getElem?_map, List.getElem?_eq_getElem hi]; rfl)
    rw [Go.WideShapes.add_plain, Nat.zero_add] at this
    exact ⟨by rw [this, List.getD_eq_getElem?_getD, List.getElem?_eq_getElem hi]; rfl, (Array.getElem?_eq_some_iff.1 hg).1⟩

/-- A measure, a place and a text, in boxes. -/
structure HT3 (w0 w : World) (a : Option Addr) (n c : Nat) (sc : Int) (l : List (Int × Int)) (k t : Int) (s : ByteArray) : Prop where
  h : HeldP w0 w w0.heap.size (w0.heap.size + 1) a n c sc l k t
  tx : w.cell? ⟨w0.heap.size + 2, 0, none⟩ = some (.string s)
  lt : w0.heap.size + 2 < w.heap.size
theorem HT3.next {w0 w w' : World} {a : Option Addr} {n c : Nat} {sc : Int} {l : List (Int × Int)} {k t : Int} {s : ByteArray} (h : HT3 w0 w a n c sc l k t s) (b : Below w.heap.size w w') : HT3 w0 w' a n c sc l k t s :=
  ⟨h.h.next b, (b.cell (p := ⟨w0.heap.size + 2, 0, none⟩) h.lt).trans h.tx, Nat.lt_of_lt_of_le h.lt b.size⟩
theorem HT3.start {w : World} {a : Option Addr} {n c : Nat} {sc : Int} {l : List (Int × Int)} (k t : Int) (s : ByteArray) (h : Meas w (.agg #[.slice a n c, .int .i64 sc]) l sc) :
    HT3 w (((w.alloc (.cells #[.slice a n c, .int .i64 sc] 24)).alloc (.cells #[.int .i64 k, .int .i64 t] 26)).alloc (.cells #[.string s] 9)) a n c sc l k t s :=
  ⟨(HeldP.start k t h).next (boxed _ _), box_now _ _ _ (by simp), by simp⟩

/-- Is one of the first i tries the text? -/
def gotTo (s : ByteArray) (xs : List (Int × ByteArray)) (i : Nat) : Bool := (xs.take i).any fun y => y.2.toList == s.toList
theorem gotTo_succ {s : ByteArray} {xs : List (Int × ByteArray)} {i : Nat} {y : Int × ByteArray} (hy : xs[i]? = some y) : gotTo s xs (i + 1) = (gotTo s xs i || y.2.toList == s.toList) := by
  unfold gotTo
  rw [List.take_add_one, hy, List.any_append]
  simp
theorem gotTo_all {s : ByteArray} {xs : List (Int × ByteArray)} (h : ∃ x, (x, s) ∈ xs) : gotTo s xs xs.length = true := by
  obtain ⟨x, hx⟩ := h
  unfold gotTo
  rw [List.take_length, List.any_eq_true]
  exact ⟨(x, s), hx, by simp⟩
/-- While tries come: whether one was the text. -/
structure BackI (w w9 : World) (B cn : Nat) (s : ByteArray) (b : Bool) (X : World) : Prop where
  since : Since B w9 X
  below : Below w.heap.size w X
  tx : X.cell? ⟨w.heap.size + 2, 0, none⟩ = some (.string s)
  fd : X.cell? ⟨cn, 0, none⟩ = some (.bool b)
  ff : X.frozen? ⟨cn, 0, none⟩ = false
theorem BackI.within {w w9 : World} {B cn : Nat} {s : ByteArray} {b : Bool} {X Y : World} (h : BackI w w9 B cn s b X) (hb : Below w9.heap.size X Y) (h1 : w.heap.size + 2 < cn) (h2 : cn < w9.heap.size) : BackI w w9 B cn s b Y :=
  ⟨h.since.below hb, h.below.trans (hb.mono (by omega)), (hb.cell (p := ⟨w.heap.size + 2, 0, none⟩) (by show w.heap.size + 2 < _; omega)).trans h.tx,
    (hb.cell (p := ⟨cn, 0, none⟩) h2).trans h.fd, (hb.frozen (p := ⟨cn, 0, none⟩) h2).trans h.ff⟩
theorem BackI.set {w w9 : World} {B cn : Nat} {s : ByteArray} {b : Bool} {X : World} (h : BackI w w9 B cn s b X) (h1 : w.heap.size + 2 < cn) (h2 : cn < B) {b' b2 : Bool} (e : b2 = b') : BackI w w9 B cn s b' (X.setCell ⟨cn, 0, none⟩ (.bool b2)) := by
  subst e
  refine ⟨h.since.setCell (p := ⟨cn, 0, none⟩) h2 _, h.below.setCell (p := ⟨cn, 0, none⟩) (by show w.heap.size ≤ cn; omega) _, ?_, ?_, ?_⟩
  · rw [World.cell?_setCell_other _ _ _ _ (by intro e; have e' := congrArg Addr.block e; dsimp only at e'; omega)]; exact h.tx
  · rw [World.cell?_setCell_same _ _ _ h.fd]
  · rw [World.frozen?_setCell]; exact h.ff

set_option maxHeartbeats 8000000 in
theorem walk_VdevBack (v : Value) (l : List (Int × Int)) (sc k t : Int) (s : ByteArray) (aA : Option Addr) (nA cA : Nat) (aL : Option Addr) (nL cL : Nat) (w : World) (h : Meas w v l sc) (hk : I64 k) (ht : I64 t) (hs : s.size ≤ maxLen) (hA : ∃ f, Bl w aA nA f) (hL : ∃ f, Bl w aL nL f) :
    Calls Tryz.prog 3 #[v, .agg #[.int .i64 k, .int .i64 t], .string s, .slice aA nA cA, .slice aL nL cL] w fun e w' => e = .returned (.bool true) ∧ Below w.heap.size w w' := by
  unfold maxLen at hs
  obtain ⟨fA, hA⟩ := hA
  obtain ⟨fL, hL⟩ := hL
  have K1 := h
  obtain ⟨a, gn, gc, rfl, hg⟩ := id h
  replace K1 := Lib.hid (HT3.start k t s K1)
  have HI := Lib.hid hk
  have HT := Lib.hid ht
  have HAA := Lib.hid hA
  have HLL := Lib.hid hL
  clear h hg hk ht hA hL
  refine (callsIn_wide (n := 5)).1 ?_
  refine callsIn_of_wp_marks Tryz.func3 rfl trivial (wpIn_wide.2 ?_) rfl
  simp only [Tryz.ntmps3, List.size_toArray, List.length_cons, List.length_nil, Nat.reduceAdd, Nat.reduceSub, Array.replicate_succ, Array.replicate_zero, List.push_toArray, List.append_toArray, List.nil_append, List.cons_append]
  go_wp2_with fail
  refine (awake8 _).mono ?_
  rintro e w1 ⟨rfl, c1⟩
  have K2 := Lib.hid (K1.out.next c1)
  clear c1 K1
  have ktx := K2.out.tx
  by_cases hs1 : s.size ≤ 1000
  · have d1 : decide (1000 < (s.size : Int)) = false := by rw [decide_eq_false_iff_not]; omega
    have k0 := K2.out.h.h.c0
    have k1 := K2.out.h.h.c1
    have HS1 := Lib.hid hs1
    by_cases hr : 100 < l.length ∨ 200 < sc ∨ rightL l sc = false
    · have HDV := Lib.hid (devices_no l sc _ w1 K2.out.h.h.m hr (.slice aA nA cA) (.slice aL nL cL))
      unfold noDevs at HDV
      clear hr
      go_wp2_with fail
      refine HDV.out.mono ?_
      rintro e w2 ⟨rfl, c2⟩
      have HF := Lib.hid (next (next K2.out.h.h.below c2) (boxed w2 (.cells #[.slice none 0 0, .int .i64 0, .slice none 0 0, .slice none 0 0] 31)))
      go_wp2
      exact ⟨.bool true, by simp [results, Tryz.f3, go_sem], rfl, HF.out⟩
    · have hr1 : RightM l sc := rightM_iff.1 (by cases e : rightL l sc with | true => rfl | false => exact absurd (.inr (.inr e)) hr)
      have hr2 : l.length ≤ 100 := by omega
      have hr3 : sc ≤ 200 := by omega
      have HDV := Lib.hid (devices_ok l sc _ w1 K2.out.h.h.m hr2 hr3 hr1 aA aL nA cA nL cL fA fL (HAA.out.below K2.out.h.h.below) (HLL.out.below K2.out.h.h.below))
      clear hr hr1 hr2 hr3
      go_wp2_with fail
      refine HDV.out.mono ?_
      rintro e w2 ⟨x, hv, rfl, rfl, h2, c2⟩
      have hbx := boxed w2 (.cells #[.slice x.ga x.gn x.gc, .int .i64 x.sc, .slice (some ⟨x.lb, 0, none⟩) x.n x.n, .slice (some ⟨x.ab, 0, none⟩) x.n x.n] 31)
      have HS3 := Lib.hid (h2.add hbx (BoxX.new w2 x _ (Nat.le_refl _) 31))
      have C3 := Lib.hid (next c2 hbx)
      obtain ⟨hn1, h32⟩ := h2.right.1.devs h2.right.2
      have hown := h2.out
      obtain ⟨gH, cH, rfl⟩ : ∃ g c, hv = .slice (some ⟨g, 0, none⟩) x.n c := by
        rcases hown.2 with ⟨_, e⟩ | ⟨g, cap, _, e, _⟩
        · rw [hereTo_len] at e; omega
        · rw [hereTo_len] at e; exact ⟨g, cap, e⟩
      obtain ⟨hB, hhB⟩ : ∃ hB : Nat → Bool, ∀ i, hB i = (!saysB nA fA i && !saysB nL fL i) := ⟨_, fun _ => rfl⟩
      have HBC : Hid (∀ W, OwnBl w1.heap.size W (.slice (some ⟨gH, 0, none⟩) x.n cH) (hereTo nA nL fA fL x.n) → ∀ i, i < x.n → W.cell? ⟨gH, i, none⟩ = some (.bool (hB i)) ∧ gH < W.heap.size) := Lib.hid fun W ho i hi => by
        have := blAt ho i (by rw [hereTo_len]; exact hi)
        rw [hhB]
        unfold hereTo at this
        rw [List.getD_eq_getElem?_getD, List.getElem?_map, List.getElem?_range hi] at this
        exact this
      have HHB : Hid (∀ i, i < x.n → hereB (dsTo nL fL (zeroDv x.sc) x.n) (awTo nA fA x.n) i = hB i) := Lib.hid fun i hi => by rw [hhB]; exact hereB_to nA nL fA fL rfl hi
      have K3 := Lib.hid (K2.out.next C3.out)
      have f0 := HS3.out.out.2.c0
      have f1 := HS3.out.out.2.c1
      have f2 := HS3.out.out.2.c2
      have f3 := HS3.out.out.2.c3
      have p0 := K3.out.h.p0
      have p1 := K3.out.h.p1
      clear ktx
      have ktx := K3.out.tx
      clear h2 c2 hbx k0 k1 hown hhB
      unfold Px.val
      cases hm : mayT l x.sc k t s.size with
      | false =>
        have HW := Lib.hid (write8_bad HS3.out k t HI.out HT.out s HS1.out hm)
        have HMF := Lib.hid hm
        unfold Px.val at HW
        clear hm
        go_wp2_with fail
        refine HW.out.mono ?_
        rintro e w4 ⟨rfl, c4⟩
        have K4 := Lib.hid (K3.out.next c4)
        clear c4 p0 p1 ktx f0 f1 f2 f3
        have k0 := K4.out.h.h.c0
        have k1 := K4.out.h.h.c1
        have p0 := K4.out.h.p0
        have p1 := K4.out.h.p1
        have ktx := K4.out.tx
        have HE := Lib.hid (encode_bad l x.sc _ w4 K4.out.h.h.m k t HI.out HT.out s HS1.out HMF.out)
        go_wp2_with fail
        refine HE.out.mono ?_
        rintro e w5 ⟨rfl, c5⟩
        have HF := Lib.hid (next K4.out.h.h.below c5)
        go_wp2
        exact ⟨.bool true, by simp [results, Tryz.f3, go_sem], rfl, HF.out⟩
      | true =>
        obtain ⟨k', t', z', rfl, rfl, hsz, hBl⟩ := mayT_iff.1 hm
        have hPs := hBl.puts hsz HS3.out.right.2
        have HP := Lib.hid hPs
        have HW := Lib.hid (write8_ok HS3.out k' t' z' hBl s HS1.out hsz hPs (by omega))
        have HB := Lib.hid hBl
        have HSZ := Lib.hid hsz
        obtain ⟨kk, u, hE⟩ := hBl.enc7 hsz
        have hfail : failN (dsTo nL fL (zeroDv x.sc) x.n) (awTo nA fA x.n) (colsOf l k' t' z') = (faTo hB (colsOf l k' t' z') (colsOf l k' t' z').length).length := by
          unfold failN
          rw [faTo_lack _ _ x.n fun j hj => (hPs.dev j hj).2, faTo_lack _ _ x.n fun j hj => (hPs.dev j hj).2]
          exact lackN_congr _ _ HHB.out
        obtain ⟨N, hN⟩ : ∃ N, (faTo hB (colsOf l k' t' z') (colsOf l k' t' z').length).length = N := ⟨_, rfl⟩
        obtain ⟨er, her⟩ : ∃ er, errN (l[k']'hBl.hk) N = er := ⟨_, rfl⟩
        rw [hfail, hN, her] at HW
        have hlk : Lacks (colsOf l k' t' z') (fun i => sect s (i % z')) hB (rawL (wrTo (dsTo nL fL (zeroDv x.sc) x.n) (awTo nA fA x.n) (colsOf l k' t' z') (encOf l k' t' z' s) (colsOf l k' t' z').length) (awTo nA fA x.n) (colsOf l k' t' z')) := by
          rw [hE.enc]
          exact lacks_raw (hBl.apartN HS3.out.right.2) _ _ fun j hj => HHB.out _ (hPs.dev j hj).2
        have HLK := Lib.hid hlk
        have HFD := Lib.hid (hE.found hlk (fun j hj => (hPs.dev j hj).2) hN her)
        have HENC := Lib.hid hE.enc
        unfold Px.val at HW
        clear hm hPs hfail hN her hlk hE hsz hBl
        go_wp2_with fail
        refine HW.out.mono ?_
        rintro e w4 ⟨rfl, h4, c4⟩
        have HS4 := Lib.hid h4
        have C4 := Lib.hid (C3.out.trans c4)
        have K4 := Lib.hid (K2.out.next C4.out)
        clear h4 c4 f0 f1 f2 f3 p0 p1 ktx HW
        have k0 := K4.out.h.h.c0
        have k1 := K4.out.h.h.c1
        have p0 := K4.out.h.p0
        have p1 := K4.out.h.p1
        have ktx := K4.out.tx
        generalize wrTo (dsTo nL fL (zeroDv x.sc) x.n) (awTo nA fA x.n) (colsOf l k' t' z') (encOf l k' t' z' s) (colsOf l k' t' z').length = ds4 at *
        have HE := Lib.hid (encode_ok l x.sc _ _ K4.out.h.h.m k' t' z' HB.out s HSZ.out)
        go_wp2_with fail
        refine HE.out.mono ?_
        rintro e w5 ⟨v5, rfl, hO5, c5⟩
        have HO5 := Lib.hid hO5
        have HS5 := Lib.hid (HS4.out.below c5)
        have K5 := Lib.hid (K4.out.next c5)
        clear hO5 c5 k0 k1 p0 p1 ktx HE HS4
        have f0 := HS5.out.out.2.c0
        have f1 := HS5.out.out.2.c1
        have f2 := HS5.out.out.2.c2
        have f3 := HS5.out.out.2.c3
        have p0 := K5.out.h.p0
        have p1 := K5.out.h.p1
        have ktx := K5.out.tx
        have hz4 := HB.out.z4
        have hszz := HSZ.out
        have q4 : Int.tdiv (s.size : Int) 64 = (z' : Int) := by rw [Int.tdiv_eq_ediv_of_nonneg (by omega)]; omega
        have HRW := Lib.hid (raw_ok HS5.out k' t' z' HB.out)
        unfold Px.val at HRW
        clear hszz
        go_wp2_with fail
        refine HRW.out.mono ?_
        rintro e w6 ⟨v6, rfl, hO6, c6⟩
        have HO6 := Lib.hid hO6
        have HO5' := Lib.hid (HO5.out.below c6)
        have HS6 := Lib.hid (HS5.out.below c6)
        have K6 := Lib.hid (K5.out.next c6)
        clear hO6 c6 f0 f1 f2 f3 p0 p1 ktx HRW HS5 HO5
        have k0 := K6.out.h.h.c0
        have k1 := K6.out.h.h.c1
        have p0 := K6.out.h.p0
        have p1 := K6.out.h.p1
        have ktx := K6.out.tx
        have HRF := Lib.hid (refOf_any l x.sc _ _ K6.out.h.h.m k' t' z' HB.out)
        go_wp2_with fail
        refine HRF.out.mono ?_
        rintro e w7 ⟨v7, rfl, hO7, c7⟩
        have HO7 := Lib.hid hO7
        have HOr := Lib.hid (HO6.out.below c7)
        have HOa := Lib.hid (HO5'.out.below c7)
        have HS7 := Lib.hid (HS6.out.below c7)
        have K7 := Lib.hid (K6.out.next c7)
        clear hO7 c7 k0 k1 p0 p1 ktx HO6 HO5' HRF HS6
        have hpos := HB.out.laid.pos
        have hfew := HB.out.laid.few
        obtain ⟨m, hm⟩ : ∃ m, (colsOf l k' t' z').length = m := ⟨_, rfl⟩
        obtain ⟨gc1, cc1, rfl, hcc1, _, _⟩ := HO7.out.some hpos
        obtain ⟨gr1, cr1, rfl, hcr1, _, _⟩ := own_ex HOr.out (by rw [rawL_len]; exact hpos)
        obtain ⟨ga1, ca1, rfl, hca1, _, _⟩ := own_ex HOa.out (by rw [encOf_len]; exact hpos)
        rw [rawL_len, hm] at hcr1
        rw [encOf_len, hm] at hca1
        rw [hm] at hcc1 hpos hfew
        rw [rawL_len, encOf_len, hm]
        have HTXT := Lib.hid HOr.out.txt
        rw [rawL_len, hm] at HTXT
        have HMM := Lib.hid hm
        have HCE : Hid (∀ j, j < m → ∀ W, Below w7.heap.size w7 W → (∃ (d : Nat) (tx : ByteArray) (b : Bool), d < x.n ∧ W.cell? ⟨gc1, j * 4, none⟩ = some (.int .i64 (d : Int)) ∧ W.cell? ⟨gH, d, none⟩ = some (.bool b) ∧ W.cell? ⟨gr1, j, none⟩ = some (.string (if b then tx else ⟨#[]⟩)) ∧ W.cell? ⟨ga1, j, none⟩ = some (.string tx))) := Lib.hid fun j hj W hb => by
          have hjL : j < (colsOf l k' t' z').length := by rw [HMM.out]; exact hj
          have c0 := (ownC_in (HO7.out.below hb) j hjL).c0
          rw [(HP.out.dev j hjL).1] at c0
          have r := own_in (HOr.out.below hb) j (by rw [rawL_len]; exact hjL)
          have ra := own_in (HOa.out.below hb) j (by rw [encOf_len]; exact hjL)
          have rh := (HBC.out W (HS7.out.below hb).out.1 _ (HP.out.dev j hjL).2).1
          refine ⟨_, _, _, (HP.out.dev j hjL).2, c0, rh, ?_, ra⟩
          rw [r, HENC.out, encL_getD _ _ j hjL]
          cases e : hB (devN (colsOf l k' t' z') j) with
          | true => rw [HLK.out.here j hjL e, if_pos rfl]
          | false => rw [HLK.out.gone j hjL e, if_neg (by simp)]
        clear hm HOr HOa HO7
        have hx32 : x.n ≤ 32 := h32
        go_wp2_with fail
        go_loopw [21] (fun i wr => ∃ j : Nat, j ≤ m ∧ i = .int .i64 j ∧ Below w7.heap.size w7 wr) (fun i _ => m - (intOf i).toNat)
        case atStart => exact ⟨0, Nat.zero_le _, rfl, Below.refl _ _⟩
        case round =>
          obtain ⟨j, hj, rfl, hbw⟩ := hrel
          have Cr := Lib.hid hbw
          by_cases hlt : j < m
          · obtain ⟨d, tx, b, hdn, c0, ch, cr, ca⟩ := HCE.out j hlt wr hbw
            clear hbw
            have q5 : (j : Int) < (m : Int) := by omega
            have q6 : (0 : Int) ≤ (j : Int) := by omega
            have q7 : (d : Int) < (x.n : Int) := by omega
            have q8 : (0 : Int) ≤ (d : Int) := by omega
            cases b with
            | true =>
              rw [if_pos rfl] at cr
              go_wp2_with fail
              go_quiet (fail)
              go_wp2
              go_roundw
              case rel => exact ⟨j + 1, by omega, by go_num, by with_reducible (first | exact Cr.out | exact Cr.out.drew | exact below_drewN Cr.out _)⟩
              case measure => simp [intOf]; omega
            | false =>
              rw [if_neg (by simp)] at cr
              go_wp2_with fail
              go_quiet (fail)
              go_wp2
              go_roundw
              case rel => exact ⟨j + 1, by omega, by go_num, by with_reducible (first | exact Cr.out | exact Cr.out.drew | exact below_drewN Cr.out _)⟩
              case measure => simp [intOf]; omega
          · obtain rfl : j = m := by omega
            have Kr := Lib.hid (K7.out.next Cr.out)
            have b10 := boxed wr (.cells #[.bool false] 4)
            have K10 := Lib.hid (Kr.out.next b10)
            have HTR := Lib.hid (tries_any l x.sc _ _ K10.out.h.h.m k' t' z' HI.out HT.out ⟨by omega, by omega⟩ _ _ ((HTXT.out.below Cr.out).below b10) (by rw [rawL_len, HMM.out]; omega))
            have k0 := K10.out.h.h.c0
            have k1 := K10.out.h.h.c1
            have p0 := K10.out.h.p0
            have p1 := K10.out.h.p1
            have ktx : (wr.alloc (.cells #[.bool false] 4)).cell? ⟨w.heap.size + 1 + 1, 0, none⟩ = some (.string s) := K10.out.tx
            have hcn : (wr.alloc (.cells #[.bool false] 4)).cell? ⟨wr.heap.size, 0, none⟩ = some (.bool false) := box_now _ _ _ rfl
            have hcf : (wr.alloc (.cells #[.bool false] 4)).frozen? ⟨wr.heap.size, 0, none⟩ = false := World.frozen?_alloc_at _ _ _ _ rfl
            have hlt10 := Kr.out.lt
            clear b10 hbw
            go_wp2_with fail
            refine HTR.out.mono ?_
            rintro e w9 ⟨v9, rfl, hS9, c9⟩
            obtain ⟨gf, lb, rfl, eg, hH⟩ := hS9
            rw [World.size_alloc] at c9 hH
            have hs9 := c9.size
            rw [World.size_alloc] at hs9
            have K11 := K10.out.next (by rw [World.size_alloc]; exact c9)
            have HA9 : Hid (BackI w w9 (wr.heap.size + 1) wr.heap.size s false w9) := Lib.hid ⟨Since.refl _ _, K11.h.h.below, K11.tx, (c9.cell (p := ⟨wr.heap.size, 0, none⟩) (by show wr.heap.size < _; omega)).trans hcn, (c9.frozen (p := ⟨wr.heap.size, 0, none⟩) (by show wr.heap.size < _; omega)).trans hcf⟩
            have HEG := Lib.hid eg
            have HHH := Lib.hid hH
            generalize triesOf l x.sc k' t' z' (rawL ds4 (awTo nA fA x.n) (colsOf l k' t' z')) = xs at HFD HHH
            have HA0 : Hid (BackI w w9 (wr.heap.size + 1) wr.heap.size s (gotTo s xs 0) w9) := HA9
            generalize wr.heap.size = cn at HA0 HHH hlt10 hs9
            clear eg hH c9 k0 k1 p0 p1 ktx hcn hcf K11 K10 Kr HTR HA9
            go_wp2_with fail
            refine (wpIn_wide (n := 5)).1 ?_
            refine wpIn_range_second 140 141 24 rfl (by decide) rfl trivial HEG.out (fun x : Int × ByteArray => .int .i64 x.1) (fun x => .string x.2) (HHH.out _ (by decide)) (Since.refl _ _) rfl
              (fun i W => BackI w w9 (cn + 1) cn s (gotTo s xs i) W)
              (fun _ _ _ => False)
              (fun i X Y h hb => h.within hb hlt10 (by omega))
              (fun _ _ _ _ h _ => h)
              (fun i X h => h.since)
              HA0.out ?assign ?body ?done ?stop
            case assign =>
              intro l y W
              gi_wp2
              exact ⟨rfl, trivial⟩
            case body =>
              intro l i y W hy hL
              simp only [List.setIfInBounds_toArray, List.set_cons_succ, List.set_cons_zero]
              have HL := Lib.hid hL
              have ktx : W.cell? ⟨w.heap.size + 1 + 1, 0, none⟩ = some (.string s) := hL.tx
              have kc := hL.fd
              have kf := hL.ff
              have HSU := Lib.hid (gotTo_succ (s := s) hy)
              obtain ⟨yd, yt⟩ := y
              dsimp only at HSU ⊢
              clear hL hy
              obtain ⟨gb, hgb⟩ : ∃ gb, gotTo s xs i = gb := ⟨_, rfl⟩
              rw [hgb] at kc HSU HL
              clear hgb
              cases gb with
              | true =>
                gi_wp2
                exact ⟨(Since.refl _ _).setCell (p := ⟨cn, 0, none⟩) (by show cn < _; omega) _, HL.out.set hlt10 (by omega) (by rw [HSU.out]; rfl)⟩
              | false =>
                rw [Bool.false_or] at HSU
                obtain ⟨q, hq⟩ : ∃ q, (yt.toList == s.toList) = q := ⟨_, rfl⟩
                rw [hq] at HSU
                gi_wp2
                exact ⟨(Since.refl _ _).setCell (p := ⟨cn, 0, none⟩) (by show cn < _; omega) _, HL.out.set hlt10 (by omega) (by rw [HSU.out])⟩
            case done =>
              intro D W hD hL hK
              have kc := hL.fd
              have HBW := Lib.hid hL.below
              clear hL
              rcases HFD.out with ⟨e0, hx⟩ | ⟨e0, hx⟩
              · subst e0
                rw [gotTo_all hx] at kc
                clear hx
                go_wp2
                refine ⟨by simp, .inl ⟨_, _, rfl, run_takeDeferred hK, ?_⟩⟩
                exact ⟨.bool true, by simp [results, Tryz.f3, go_sem], rfl, below_putObj HBW.out (by omega) _⟩
              · subst e0
                have hg0 : gotTo s xs xs.length = false := by rw [hx]; rfl
                rw [hg0] at kc
                clear hx hg0
                go_wp2
                refine ⟨by simp, .inl ⟨_, _, rfl, run_takeDeferred hK, ?_⟩⟩
                exact ⟨.bool true, by simp [results, Tryz.f3, go_sem], rfl, below_putObj HBW.out (by omega) _⟩
            case stop =>
              rintro D c k W _ _ h _
              exact h.elim
  · have HFF := Lib.hid K2.out.h.h.below
    have d1 : decide (1000 < (s.size : Int)) = true := by rw [decide_eq_true_iff]; omega
    go_wp2_with fail
    refine (awake8 _).mono ?_
    rintro e w4 ⟨rfl, c4⟩
    have HF4 := Lib.hid (next HFF.out c4)
    go_wp2
    exact ⟨.bool true, by simp [results, Tryz.f3, go_sem], rfl, HF4.out⟩
end Go.Proofs.YtlhnmcopioeboaaGreat
