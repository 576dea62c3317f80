/-
  Ja, Jc, Jd, Je, joined.
-/
import Derived.Test.YtiffkbmcikiioaaGreatY40
import Derived.Test.YtiffkbmcikiioaaGreatY07
import Derived.Test.YtiffkbmcikiioaaGreatY25
import Derived.Test.YtiffkbmcikiioaaGreatY44
import Derived.Test.YtiffkbmcikiioaaGreatY50
import Derived.Test.YtiffkbmcikiioaaGreatY34
import Derived.Test.YtiffkbmcikiioaaGreatHw
import Derived.Test.YtiffkbmcikiioaaGreatY45
import Derived.Test.YtiffkbmcikiioaaGreatY49
import Derived.Test.YtiffkbmcikiioaaGreatY48
import Derived.Test.YtiffkbmcikiioaaGreatY22
/-
  The document's Unlike (polderref10): how many columns aren't as they are to be, of devices that are here.
-/
namespace Go.Proofs.YtiffkbmcikiioaaGreat
set_option maxRecDepth 100000
open Go.RowKit M

/-- How many of the first columns are unlike what they are to be. -/
def unlTo (hr : Nat → Bool) (L : List C) (E G : List ByteArray) (j : Nat) : Nat := (List.range j).countP fun i => hr (devN L i) && neB (E.getD i ⟨#[]⟩) (G.getD i ⟨#[]⟩)
theorem unlTo_succ (hr : Nat → Bool) (L : List C) (E G : List ByteArray) (j : Nat) : unlTo hr L E G (j + 1) = unlTo hr L E G j + if hr (devN L j) && neB (E.getD j ⟨#[]⟩) (G.getD j ⟨#[]⟩) then 1 else 0 := by
  unfold unlTo
  rw [List.range_succ, List.countP_append]
  simp [List.countP_cons]
theorem unlTo_le (hr : Nat → Bool) (L : List C) (E G : List ByteArray) (j : Nat) : unlTo hr L E G j ≤ j := by
  have := List.countP_le_length (p := fun i => hr (devN L i) && neB (E.getD i ⟨#[]⟩) (G.getD i ⟨#[]⟩)) (l := List.range j)
  rw [List.length_range] at this
  exact this
theorem neB_symm (s t : ByteArray) : neB s t = neB t s := by
  cases h : neB s t with
  | false => rw [neB_false.1 h, neB_false.2 rfl]
  | true => exact (neB_true.2 fun e => neB_true.1 h e.symm).symm
theorem unlTo_all (hr : Nat → Bool) (L : List C) (E G : List ByteArray) : unlTo hr L E G L.length = unlN hr L E G := by
  unfold unlTo unlN
  congr 1
  funext i
  rw [neB_symm]
set_option maxHeartbeats 2000000 in
theorem refUnlike_any (L : List C) (vL : Value) (E G : List ByteArray) (vE vG : Value) (hr : Nat → Bool) (gH n cH : Nat) (w : World) (hL : ColsV w vL L) (hE : Txt w vE E) (hG : Txt w vG G) (hH : ∀ i, i < n → w.cell? ⟨gH, i, none⟩ = some (.bool (hr i)))
    (hEl : E.length = L.length) (hGl : G.length = L.length) (hpos : 0 < L.length) (h32 : L.length ≤ 32) (hd : ∀ j (h : j < L.length), L[j].dev = (devN L j : Int) ∧ devN L j < n) :
    Calls Tryz.prog 22 #[vL, vE, vG, .slice (some ⟨gH, 0, none⟩) n cH] w fun e w' => e = .returned (.int .i64 (unlN hr L E G : Int)) ∧ Below w.heap.size w w' := by
  obtain ⟨gL, nL, cL, rfl, hnL, hgL, hcL⟩ := hL.some hpos
  obtain ⟨gE, oE, cE, rfl, hcE, hgE, hjE⟩ := hE.isSome (by omega)
  obtain ⟨gG, oG, cG, rfl, hcG, hgG, hjG⟩ := hG.isSome (by omega)
  have HL := Lib.hid hcL
  have HE := Lib.hid hjE
  have HG := Lib.hid hjG
  have HH := Lib.hid hH
  have HD := Lib.hid hd
  have HEL := Lib.hid hEl
  have HGL := Lib.hid hGl
  have HNL := Lib.hid hnL
  rw [hEl, hnL] at hcE ⊢
  rw [hGl, hnL] at hcG ⊢
  rw [hnL] at hpos h32
  clear hL hE hG hH hd hcL hjE hjG hEl hGl hnL
  go_enter Tryz.func22, Tryz.ntmps22
  go_wp2_with fail
  go_loopw [9, 10] (fun t i wr => ∃ j q : Nat, j ≤ nL ∧ q ≤ j ∧ t = .int .i64 (q : Int) ∧ i = .int .i64 (j : Int) ∧ Hid (unlTo hr L E G j = q) ∧ Below w.heap.size w wr) (fun _ i _ => nL - (intOf i).toNat)
  case atStart => exact ⟨0, 0, Nat.zero_le _, Nat.le_refl _, rfl, rfl, Lib.hid rfl, Below.refl _ _⟩
  case round =>
    obtain ⟨j, q, hj, hq, rfl, rfl, HQ, hbw⟩ := hrel
    rename World => wr
    have HB := Lib.hid hbw
    by_cases hlt : j < nL
    · have hjL : j < L.length := by rw [HNL.out]; exact hlt
      have hjE : j < E.length := by rw [HEL.out]; exact hjL
      have hjG : j < G.length := by rw [HGL.out]; exact hjL
      obtain ⟨hdv, hdn⟩ := HD.out j hjL
      obtain ⟨x, hx⟩ : ∃ x, E[j] = x := ⟨_, rfl⟩
      obtain ⟨y, hy⟩ : ∃ y, G[j] = y := ⟨_, rfl⟩
      have e0 := (hbw.cell (p := ⟨gL, j * 4, none⟩) hgL).trans (HL.out j hjL).c0
      have e1 := (hbw.cell (p := ⟨gE, oE + j, none⟩) hgE).trans (HE.out j hjE)
      have e2 := (hbw.cell (p := ⟨gG, oG + j, none⟩) hgG).trans (HG.out j hjG)
      have hh := HH.out _ hdn
      have e3 := (hbw.cell (p := ⟨gH, devN L j, none⟩) (World.block_lt_of_cell? w _ hh)).trans hh
      rw [hdv] at e0
      rw [hx] at e1
      rw [hy] at e2
      have HST : Hid (unlTo hr L E G (j + 1) = q + if hr (devN L j) && neB x y then 1 else 0) := Lib.hid (by
        rw [unlTo_succ, HQ.out, getD_some ⟨hjE, hx⟩, getD_some ⟨hjG, hy⟩])
      obtain ⟨dn, hdn'⟩ : ∃ dn, devN L j = dn := ⟨_, rfl⟩
      rw [hdn'] at e0 e3 HST hdn
      clear hx hy hdv hh hdn' hjL hjE hjG HQ hbw
      have q1 : (j : Int) < (nL : Int) := by omega
      have q2 : (0 : Int) ≤ (j : Int) := by omega
      have q3 : (dn : Int) < (n : Int) := by omega
      have q4 : (0 : Int) ≤ (dn : Int) := by omega
      have dd : decide ((j : Int) < (nL : Int)) = true := by simpa using hlt
      cases hb : hr dn with
      | false =>
        rw [hb] at e3
        have HS2 : Hid (unlTo hr L E G (j + 1) = q) := Lib.hid (by rw [HST.out, hb]; rfl)
        clear hb HST
        go_wp2_with fail
        go_quiet (fail)
        go_wp2
        go_roundw
        case rel => exact ⟨j + 1, q, by omega, by omega, rfl, by go_num, HS2, below_drewN HB.out _⟩
        case measure => simp [intOf]; omega
      | true =>
        rw [hb] at e3
        cases hne : neB x y with
        | false =>
          have hq1 : (x.toList == y.toList) = true := by unfold neB at hne; simpa using hne
          have hq2 : (x.toList != y.toList) = false := by unfold bne; rw [hq1]; rfl
          have HS2 : Hid (unlTo hr L E G (j + 1) = q) := Lib.hid (by rw [HST.out, hb, hne]; rfl)
          clear hb hne HST
          go_wp2_with fail
          go_quiet (fail)
          go_wp2
          go_roundw
          case rel => exact ⟨j + 1, q, by omega, by omega, rfl, by go_num, HS2, below_drewN HB.out _⟩
          case measure => simp [intOf]; omega
        | true =>
          have hq1 : (x.toList == y.toList) = false := by unfold neB at hne; simpa using hne
          have hq2 : (x.toList != y.toList) = true := by unfold bne; rw [hq1]; rfl
          have HS2 : Hid (unlTo hr L E G (j + 1) = q + 1) := Lib.hid (by rw [HST.out, hb, hne]; rfl)
          clear hb hne HST
          go_wp2_with fail
          go_quiet (fail)
          go_wp2
          go_roundw
          case rel => exact ⟨j + 1, q + 1, by omega, by omega, by go_num, by go_num, HS2, below_drewN HB.out _⟩
          case measure => simp [intOf]; omega
    · obtain rfl : nL = j := by omega
      have dd : decide ((nL : Int) < (nL : Int)) = false := by simp
      have HF : Hid ((q : Int) = (unlN hr L E G : Int)) := Lib.hid (by rw [← HQ.out, ← unlTo_all, HNL.out])
      clear HQ hbw
      go_wp2
      go_ret
      exact ⟨by rw [HF.out]; rfl, HB.out⟩
end Go.Proofs.YtiffkbmcikiioaaGreat

/-
  heal.Look and heal.Whole of a pointer that isn't right.
-/
namespace Go.Proofs.YtiffkbmcikiioaaGreat
set_option maxRecDepth 100000
open Go.RowKit Go.Maps M

theorem two_boxed (w : World) (o o' : Obj) : Below w.heap.size w ((w.alloc o).alloc o') := next (boxed w o) (boxed _ o')
/-- The results' boxes of Look. -/
structure LN (b : Nat) (w : World) : Prop where
  c0 : w.cell? ⟨b + 1 + 1, 0, none⟩ = some (.string ⟨#[]⟩)
  c1 : w.cell? ⟨b + 1 + 1, 1, none⟩ = some (.int .i64 0)
  c2 : w.cell? ⟨b + 1 + 1, 2, none⟩ = some (.int .i64 0)
  c3 : w.cell? ⟨b + 1 + 1, 3, none⟩ = some (.int .i64 0)
  e0 : w.cell? ⟨b + 1 + 1 + 1, 0, none⟩ = some (.int .i64 0)
  f0 : w.frozen? ⟨b + 1 + 1, 0, none⟩ = false
  f1 : w.frozen? ⟨b + 1 + 1, 1, none⟩ = false
  f2 : w.frozen? ⟨b + 1 + 1, 2, none⟩ = false
  f3 : w.frozen? ⟨b + 1 + 1, 3, none⟩ = false
  g0 : w.frozen? ⟨b + 1 + 1 + 1, 0, none⟩ = false
  lt : b + 1 + 1 + 1 < w.heap.size
theorem LN.next {b : Nat} {w w' : World} (h : LN b w) (hb : Below w.heap.size w w') : LN b w' := by
  obtain ⟨c0, c1, c2, c3, e0, f0, f1, f2, f3, g0, lt⟩ := h
  have k : ∀ i, w'.cell? ⟨b + 1 + 1, i, none⟩ = w.cell? ⟨b + 1 + 1, i, none⟩ := fun i => hb.cell (p := ⟨b + 1 + 1, i, none⟩) (by show b + 1 + 1 < _; omega)
  have kf : ∀ i, w'.frozen? ⟨b + 1 + 1, i, none⟩ = w.frozen? ⟨b + 1 + 1, i, none⟩ := fun i => hb.frozen (p := ⟨b + 1 + 1, i, none⟩) (by show b + 1 + 1 < _; omega)
  exact ⟨(k 0).trans c0, (k 1).trans c1, (k 2).trans c2, (k 3).trans c3, (hb.cell (p := ⟨b + 1 + 1 + 1, 0, none⟩) lt).trans e0, (kf 0).trans f0, (kf 1).trans f1, (kf 2).trans f2, (kf 3).trans f3, (hb.frozen (p := ⟨b + 1 + 1 + 1, 0, none⟩) lt).trans g0, Nat.lt_of_lt_of_le lt hb.size⟩
theorem LN.start (W : World) {b : Nat} (hb : W.heap.size = b + 1 + 1) : LN b ((W.alloc (.cells #[.string ⟨#[]⟩, .int .i64 0, .int .i64 0, .int .i64 0] 45)).alloc (.cells #[.int .i64 0] 46)) := by
  have e3 : b + 1 + 1 + 1 = (W.alloc (.cells #[.string ⟨#[]⟩, .int .i64 0, .int .i64 0, .int .i64 0] 45)).heap.size := by simp [hb]
  refine ⟨?_, ?_, ?_, ?_, ?_, ?_, ?_, ?_, ?_, ?_, by simp [hb]⟩
  · rw [← hb]; simp
  · rw [← hb]; simp
  · rw [← hb]; simp
  · rw [← hb]; simp
  · rw [e3]; simp
  · rw [← hb]; simp
  · rw [← hb]; simp
  · rw [← hb]; simp
  · rw [← hb]; simp
  · rw [e3]; simp
def putN10 (w : World) (b : Nat) (er : Int) : World := (((((w.setCell ⟨b + 1 + 1, 0, none⟩ (.string ⟨#[]⟩)).setCell ⟨b + 1 + 1, 1, none⟩ (.int .i64 0)).setCell ⟨b + 1 + 1, 2, none⟩ (.int .i64 0)).setCell ⟨b + 1 + 1, 3, none⟩ (.int .i64 0)).setCell ⟨b + 1 + 1 + 1, 0, none⟩ (.int .i64 er))
theorem LN.err {b : Nat} {w : World} (h : LN b w) (er : Int) : (putN10 w b er).cell? ⟨b + 1 + 1, 0, none⟩ = some (.string ⟨#[]⟩) ∧ (putN10 w b er).cell? ⟨b + 1 + 1, 1, none⟩ = some (.int .i64 0) ∧ (putN10 w b er).cell? ⟨b + 1 + 1, 2, none⟩ = some (.int .i64 0) ∧ (putN10 w b er).cell? ⟨b + 1 + 1, 3, none⟩ = some (.int .i64 0) ∧ (putN10 w b er).cell? ⟨b + 1 + 1 + 1, 0, none⟩ = some (.int .i64 er) := by
  obtain ⟨c0, c1, c2, c3, e0, _, _, _, _, _, _⟩ := h
  unfold putN10
  exact ⟨by simp [World.cell?_setCell_other, World.cell?_setCell_same', c0], by simp [World.cell?_setCell_other, World.cell?_setCell_same', c1], by simp [World.cell?_setCell_other, World.cell?_setCell_same', c2], by simp [World.cell?_setCell_other, World.cell?_setCell_same', c3], by simp [World.cell?_setCell_other, World.cell?_setCell_same', e0]⟩
theorem LN.kept {b : Nat} {w0 w : World} (_ : LN b w) (hb : Below b w0 w) (er : Int) : Below b w0 (putN10 w b er) := by
  unfold putN10
  have h2 : b ≤ b + 1 + 1 := by omega
  have h3 : b ≤ b + 1 + 1 + 1 := by omega
  exact ((((hb.setCell h2 _).setCell h2 _).setCell h2 _).setCell h2 _).setCell h3 _
theorem noP_right (l : List (Int × Int)) (s : Int) : rightP l s noP = false := by
  unfold rightP
  rw [show decide (rangeP noP) = false from by decide]
  rfl
set_option maxHeartbeats 4000000 in
theorem look_nop0 (w : World) : Calls Tryz.prog 11 #[noDevs, noP.val] w fun e w' => e = .returned (.tuple #[noCame, .int .i64 1]) ∧ Below w.heap.size w w' := by
  have HR := Lib.hid (fun W => right8_no W)
  unfold noDevs at HR ⊢
  unfold Ptr.val Ptr.cells noP noCame
  refine (callsIn_wide (n := 5)).1 ?_
  refine callsIn_of_wp_marks Tryz.func11 rfl trivial (wpIn_wide.2 ?_) rfl
  simp only [Tryz.ntmps11, List.size_toArray, List.length_cons, List.length_nil, Nat.reduceAdd, Nat.reduceSub, Array.replicate_succ, Array.replicate_zero, List.push_toArray, List.append_toArray, List.nil_append, List.cons_append]
  go_wp2_with fail
  refine (HR.out _).mono ?_
  rintro e w1 ⟨rfl, b1⟩
  have hN := (LN.start ((w.alloc (.cells #[.slice none 0 0, .int .i64 0, .slice none 0 0, .slice none 0 0] 37)).alloc (.cells #[.int .i64 0, .int .i64 0, .int .i64 0, .int .i64 0, .bool false, .int .i64 0, .int .i64 0, .int .i64 0, .int .u64 zeroQ.a, .int .u64 zeroQ.b, .int .u64 zeroQ.c, .int .u64 zeroQ.d] 31)) (b := w.heap.size) (by simp)).next b1
  have hB := next (next (two_boxed w _ _) (two_boxed _ _ _)) b1
  obtain ⟨c0, c1, c2, c3, e0, f0, f1, f2, f3, g0, lt⟩ := id hN
  have HN := Lib.hid hN
  have HB := Lib.hid hB
  clear hN hB b1 HR lt
  go_wp2
  obtain ⟨h0, h1, h2, h3, h4⟩ := HN.out.err 1
  have hB := HN.out.kept HB.out 1
  unfold putN10 at h0 h1 h2 h3 h4 hB
  refine ⟨_, by simp [results, Tryz.f11, go_sem, h0, h1, h2, h3, h4], rfl, hB⟩
set_option maxHeartbeats 4000000 in
theorem look_nopX {B : Nat} {w : World} {x : Px} {l : List (Int × Int)} {ds : Nat → Dv} {aw : Nat → Bool} {K : Nat} {P : World → Prop} (h : St B w x l ds aw K P) : Calls Tryz.prog 11 #[x.val, noP.val] w fun e w' => e = .returned (.tuple #[noCame, .int .i64 1]) ∧ Below w.heap.size w w' := by
  have HR : Hid (∀ W, Below w.heap.size w W → Calls Tryz.prog 35 #[x.val] W fun e w' => e = .returned (.bool true) ∧ Below W.heap.size W w') := Lib.hid fun W hW => right8_any (h.below hW)
  have HPR : Hid (∀ W, Below w.heap.size w W → Calls Tryz.prog 30 #[x.g, noP.val] W fun e w' => e = .returned (.bool false) ∧ Below W.heap.size W w') := Lib.hid fun W hW => right9_any l x.sc x.g W (h.meas.below hW) noP noP_ok false (noP_right l x.sc)
  clear h
  unfold Px.g at HPR
  unfold Px.val at HR ⊢
  unfold Ptr.val Ptr.cells noP at HPR ⊢
  unfold noCame
  refine (callsIn_wide (n := 5)).1 ?_
  refine callsIn_of_wp_marks Tryz.func11 rfl trivial (wpIn_wide.2 ?_) rfl
  simp only [Tryz.ntmps11, List.size_toArray, List.length_cons, List.length_nil, Nat.reduceAdd, Nat.reduceSub, Array.replicate_succ, Array.replicate_zero, List.push_toArray, List.append_toArray, List.nil_append, List.cons_append]
  go_wp2_with fail
  refine (HR.out _ (next (two_boxed w _ _) (two_boxed _ _ _))).mono ?_
  rintro e w1 ⟨rfl, b1⟩
  have hN := (LN.start ((w.alloc (.cells #[.slice x.ga x.gn x.gc, .int .i64 x.sc, .slice (some ⟨x.lb, 0, none⟩) x.n x.n, .slice (some ⟨x.ab, 0, none⟩) x.n x.n] 37)).alloc (.cells #[.int .i64 0, .int .i64 0, .int .i64 0, .int .i64 0, .bool false, .int .i64 0, .int .i64 0, .int .i64 0, .int .u64 zeroQ.a, .int .u64 zeroQ.b, .int .u64 zeroQ.c, .int .u64 zeroQ.d] 31)) (b := w.heap.size) (by simp)).next b1
  have hK := (LK.start x noP w).1.next b1
  have hB := next (next (two_boxed w _ _) (two_boxed _ _ _)) b1
  have HN := Lib.hid hN
  have HB := Lib.hid hB
  have HK := Lib.hid hK
  clear hN hB hK b1 HR
  obtain ⟨⟨x0, x1, x2, x3⟩, ⟨p0, p1, p2, p3, p4, p5, p6, p7, p8, p9, p10, p11, _⟩, _⟩ := id HK.out
  go_wp2_with fail
  refine (HPR.out _ HB.out).mono ?_
  rintro e w2 ⟨rfl, b2⟩
  have HN2 := Lib.hid (HN.out.next b2)
  have HB2 := Lib.hid (next HB.out b2)
  clear x0 x1 x2 x3 p0 p1 p2 p3 p4 p5 p6 p7 p8 p9 p10 p11 b2 HK HN HB HPR
  obtain ⟨c0, c1, c2, c3, e0, f0, f1, f2, f3, g0, lt⟩ := id HN2.out
  clear lt
  go_wp2
  obtain ⟨h0, h1, h2, h3, h4⟩ := HN2.out.err 1
  have hB := HN2.out.kept HB2.out 1
  unfold putN10 at h0 h1 h2 h3 h4 hB
  refine ⟨_, by simp [results, Tryz.f11, go_sem, h0, h1, h2, h3, h4], rfl, hB⟩
section
variable {B : Nat} {w : World} {x : Px} {l : List (Int × Int)} {ds : Nat → Dv} {aw : Nat → Bool} {K : Nat} {P : World → Prop}
set_option maxHeartbeats 2000000 in
theorem whole_nop0 (w : World) : Calls Tryz.prog 18 #[noDevs, noP.val] w fun e w' => e = .returned (.bool false) ∧ Below w.heap.size w w' := by
  have HLK := Lib.hid (fun W => look_nop0 W)
  unfold noCame at HLK
  unfold noDevs Ptr.val Ptr.cells noP at HLK ⊢
  go_enter Tryz.func18, Tryz.ntmps18
  go_wp2_with fail
  refine (HLK.out _).mono ?_
  rintro e w1 ⟨rfl, b1⟩
  have HB1 := Lib.hid (next (next (two_boxed w _ _) b1) (boxed _ (.cells #[.string ⟨#[]⟩, .int .i64 0, .int .i64 0, .int .i64 0] 45)))
  clear b1
  go_wp2
  go_ret
  exact ⟨rfl, HB1.out⟩
set_option maxHeartbeats 2000000 in
theorem whole_nopX (h : St B w x l ds aw K P) : Calls Tryz.prog 18 #[x.val, noP.val] w fun e w' => e = .returned (.bool false) ∧ Below w.heap.size w w' := by
  have HLK : Hid (∀ W, Below w.heap.size w W → Calls Tryz.prog 11 #[x.val, noP.val] W fun e w' => e = .returned (.tuple #[noCame, .int .i64 1]) ∧ Below W.heap.size W w') := Lib.hid fun W hW => look_nopX (h.below hW)
  clear h
  unfold noCame at HLK
  unfold Px.val Ptr.val Ptr.cells noP at HLK ⊢
  go_enter Tryz.func18, Tryz.ntmps18
  go_wp2_with fail
  refine (HLK.out _ (two_boxed w _ _)).mono ?_
  rintro e w1 ⟨rfl, b1⟩
  have HB1 := Lib.hid (next (next (two_boxed w _ _) b1) (boxed _ (.cells #[.string ⟨#[]⟩, .int .i64 0, .int .i64 0, .int .i64 0] 45)))
  clear b1
  go_wp2
  go_ret
  exact ⟨rfl, HB1.out⟩
end
end Go.Proofs.YtiffkbmcikiioaaGreat

/-
  For HealPlays: plain facts on what Read and Scrub take, on what is whole; an own slice of slices of texts; devices, a pointer and what else stands beside them.
-/
namespace Go.Proofs.YtiffkbmcikiioaaGreat
set_option maxRecDepth 100000
open Go.RowKit Go.Maps M

/-- Is what is unlike at a place counted? -/
def condB (sc : Bool) (i pl : Nat) : Bool := (!sc && decide (i ≤ pl)) || (sc && decide (pl < i))
/-- What is counted at the first places. -/
def sumC (sc : Bool) (pl : Nat) (u : Nat → Nat) : Nat → Nat
  | 0 => 0
  | i + 1 => sumC sc pl u i + if condB sc i pl then u i else 0
theorem sumC_le (sc : Bool) (pl : Nat) (u : Nat → Nat) {m : Nat} (hu : ∀ i, i < m → u i ≤ 32) : ∀ i, i ≤ m → sumC sc pl u i ≤ 32 * i := by
  intro i
  induction i with
  | zero => intro _; exact Nat.le_refl _
  | succ i ih =>
    intro hi
    have h1 := ih (by omega)
    have h2 := hu i (by omega)
    unfold sumC
    split <;> omega
section
variable {l : List (Int × Int)} {sc : Int} {p : Ptr} {z n : Nat} {ds : Nat → Dv} {aw : Nat → Bool} {s : ByteArray}
theorem PR.readSum (hp : PR l sc p z) {i : Nat} (hi : i < nP p) : readN l aw p z s ds i = sumC false i (unlP l aw p z s ds) (nP p) := by
  have h0 := nP_pos p
  unfold readN
  cases h2 : p.two with
  | false =>
    have n1 : nP p = 1 := by unfold nP; rw [h2]; rfl
    rw [n1]
    obtain rfl : i = 0 := by omega
    simp [sumC, condB]
  | true =>
    have n2 : nP p = 2 := by unfold nP; rw [h2]; rfl
    rw [n2]
    rcases (by omega : i = 0 ∨ i = 1) with rfl | rfl
    · simp [sumC, condB]
    · rw [if_neg (by decide), hp.unl_fixO aw s ds hi h0 (by decide)]
      simp [sumC, condB]
      omega
theorem PR.scrubSum (hp : PR l sc p z) (hn : devsL l sc = (n : Int)) {i i2 : Nat} (hi : i < nP p) (hi2 : i2 < nP p) : scN l aw p z s (readS l aw p z s ds i) i2 (nP p) = sumC true i (unlP l aw p z s ds) (nP p) := by
  have h0 := nP_pos p
  have hr0 : unlP l aw p z s (readS l aw p z s ds i) 0 = 0 := by
    unfold readS
    split
    · exact hp.unl_fix hn aw s ds h0
    · exact hp.unl_fix hn aw s _ h0
  rw [hp.scrubbed hn s hi2, hr0]
  cases h2 : p.two with
  | false =>
    have n1 : nP p = 1 := by unfold nP; rw [h2]; rfl
    rw [n1]
    obtain rfl : i = 0 := by omega
    simp [sumC, condB]
  | true =>
    have n2 : nP p = 2 := by unfold nP; rw [h2]; rfl
    have h1 : 1 < nP p := by omega
    rw [n2, if_pos rfl]
    rcases (by omega : i = 0 ∨ i = 1) with rfl | rfl
    · unfold readS
      rw [if_pos rfl, hp.unl_fixO aw s ds h0 h1 (by decide)]
      simp [sumC, condB]
    · unfold readS
      rw [if_neg (by decide), hp.unl_fixO aw s _ h0 h1 (by decide), hp.unl_fix hn aw s ds hi]
      simp [sumC, condB]
end
/-- Are the first columns as they are to be? -/
def matchTo (E G : List ByteArray) (j : Nat) : Bool := (List.range j).all fun a => (G.getD a ⟨#[]⟩).toList == (E.getD a ⟨#[]⟩).toList
theorem matchTo_zero (E G : List ByteArray) : matchTo E G 0 = true := rfl
theorem matchTo_succ (E G : List ByteArray) (j : Nat) : matchTo E G (j + 1) = (matchTo E G j && (G.getD j ⟨#[]⟩).toList == (E.getD j ⟨#[]⟩).toList) := by
  unfold matchTo
  rw [List.range_succ, List.all_append]
  simp
theorem fineAt_match (l : List (Int × Int)) (ds : Nat → Dv) (aw : Nat → Bool) (p : Ptr) (z : Nat) (s : ByteArray) (j : Nat) : fineAt l ds aw p z s j = matchTo (EE l p z s j) (RW ds aw l p z j) (LL l p z j).length := by
  unfold fineAt matchTo badL idx
  rw [Bool.eq_iff_iff, List.all_eq_true]
  simp only [List.isEmpty_iff, List.map_eq_nil_iff, List.filter_eq_nil_iff]
  constructor
  · intro h a ha
    have := h a ha
    unfold neB at this
    simpa using this
  · intro h a ha
    have := h a ha
    unfold neB
    simpa using this
/-- Are the first places whole? -/
def wholeTo (l : List (Int × Int)) (ds : Nat → Dv) (aw : Nat → Bool) (p : Ptr) (z : Nat) (s : ByteArray) (i : Nat) : Bool := (List.range i).all (fineAt l ds aw p z s)
theorem wholeTo_succ (l : List (Int × Int)) (ds : Nat → Dv) (aw : Nat → Bool) (p : Ptr) (z : Nat) (s : ByteArray) (i : Nat) : wholeTo l ds aw p z s (i + 1) = (wholeTo l ds aw p z s i && fineAt l ds aw p z s i) := by
  unfold wholeTo
  rw [List.range_succ, List.all_append]
  simp

/-- An own slice of slices. -/
def OwnS (B : Nat) (w : World) (v : Value) (l : List Value) : Prop := w.ownsRow B 60 1 v l.length l
theorem OwnS.nil (B : Nat) (w : World) : OwnS B w (.slice none 0 0) [] := World.ownsRow_nil _ _ _ _
theorem OwnS.same {B : Nat} {w w' : World} {v : Value} {l : List Value} (h : OwnS B w v l) (hb : ∀ k, v.ownBlock = some k → w'.heap[k]? = w.heap[k]?) : OwnS B w' v l := by
  refine ⟨h.1, ?_⟩
  rcases h.2 with hn | ⟨g, cap, cur, rfl, hB, hg, rest⟩
  · exact .inl hn
  · exact .inr ⟨g, cap, cur, rfl, hB, (hb g rfl).trans hg, rest⟩
theorem OwnS.below {B : Nat} {w w' : World} {v : Value} {l : List Value} (h : OwnS B w v l) (hb : Below w.heap.size w w') : OwnS B w' v l := h.same fun k hk => hb.block k (World.ownsRow.lt h k hk).2
theorem OwnS.isSl {B : Nat} {w : World} {v : Value} {l : List Value} (h : OwnS B w v l) : ∃ a c, v = .slice a l.length c := by
  rcases h.2 with ⟨rfl, h0⟩ | ⟨g, cap, cur, rfl, hB, hb, hnc, _⟩
  · exact ⟨_, _, by rw [h0]⟩
  · exact ⟨_, _, rfl⟩
theorem OwnS.at_ {B : Nat} {w : World} {v : Value} {l : List Value} (h : OwnS B w v l) (hl : 0 < l.length) : ∃ g c, v = .slice (some ⟨g, 0, none⟩) l.length c ∧ g < w.heap.size ∧ ∀ j (hj : j < l.length), w.cell? ⟨g, j, none⟩ = some l[j] := by
  have hcells := fun g hg => World.ownsRow.cells (g := g) h hg
  rcases h.2 with ⟨_, h0⟩ | ⟨g, cap, cur, rfl, hB, hb, hnc, _⟩
  · omega
  · refine ⟨g, cap, rfl, (Array.getElem?_eq_some_iff.1 hb).1, fun j hj => ?_⟩
    have e := hcells g rfl j l[j] (List.getElem?_eq_getElem hj)
    rwa [Go.WideShapes.add_plain, Nat.zero_add] at e
theorem info_strs : ∃ i, Tryz.prog.info? 60 = some i ∧ i.zero = some (.slice none 0 0) ∧ i.size = 1 ∧ i.bytes = 24 := info_parts (by kernel_rfl)
theorem wpList_append_strs {ops : Array Oper} {rest : List Oper} {o : Oper} {a : Act} {Q : Exit → Act → World → Prop} (w : World) (hgd : o.guard = none) (s x : Operand)
    (ho : o.op = .call { callee := .builtin .append, args := #[s, x], argTypes := #[57, 57] }) (B : Nat) (v : Value) (l : List Value) (b : Value) (g c' : Nat) (hs : a.eval s = v) (hx : a.eval x = .slice (some ⟨g, 0, none⟩) 1 c')
    (hb1 : b.oneCell' = true) (hv : OwnS B w v l) (hc : w.cell? ⟨g, 0, none⟩ = some b) (hB : B ≤ w.heap.size) (hN : l.length ≤ 100000)
    (h : ∀ v' w', OwnS B w' v' (l ++ [b]) → w.grownBy w' v.ownBlock → (v'.ownBlock = v.ownBlock ∨ v'.ownBlock = some w.heap.size) → wpList Tryz.prog ops Q rest (a.put o.dst v') w') : wpList Tryz.prog ops Q (o :: rest) a w := by
  obtain ⟨i, hi, hz, hsz, hb⟩ := info_strs
  refine wpList_append_own_at w hgd s x _ ho B 60 i _ 1 24 Tryz.underlying57 hi hz hsz hb rfl (by decide) v l.length l hs hv ⟨g, 0, none⟩ 1 c' [b] hx rfl (fun j u hj => ?_) (fun u hu => ?_) (by unfold maxLen; omega) (by omega) hB fun v' w' h1 h2 _ h4 => ?_
  · have hlt : j < 1 := (List.getElem?_eq_some_iff.1 hj).1
    obtain rfl : j = 0 := by omega
    rw [Go.WideShapes.add_plain, ← hj]
    exact hc
  · rw [List.mem_singleton.1 hu]; exact hb1
  · refine h v' w' ?_ h2 h4
    unfold OwnS
    rw [List.length_append]
    exact h1
/-- A text slice that lies in none of a block. -/
def TxtO (B : Nat) (w : World) (ob : Option Nat) (v : Value) (l : List ByteArray) : Prop := ∃ g c, v = .slice (some ⟨g, 0, none⟩) l.length c ∧ l.length ≤ c ∧ B ≤ g ∧ g < w.heap.size ∧ ob ≠ some g ∧ ∀ j (h : j < l.length), w.cell? ⟨g, j, none⟩ = some (.string l[j])
theorem TxtO.txt {B : Nat} {w : World} {ob : Option Nat} {v : Value} {l : List ByteArray} (h : TxtO B w ob v l) : Txt w v l := by
  obtain ⟨g, c, rfl, hc, _, hg, _, hj⟩ := h
  exact ⟨_, _, rfl, hc, fun j h => ⟨g, 0, rfl, hg, by rw [Nat.zero_add]; exact hj j h⟩⟩
theorem TxtO.one {B : Nat} {w : World} {ob : Option Nat} {v : Value} {l : List ByteArray} (h : TxtO B w ob v l) : v.oneCell' = true := by
  obtain ⟨g, c, rfl, _⟩ := h
  rfl
theorem TxtO.turn {B : Nat} {w w' : World} {ob ob' : Option Nat} {v : Value} {l : List ByteArray} (h : TxtO B w ob v l) (t : Turn (fun k => ob = some k) w w') (ho : ob' = ob ∨ ob' = some w.heap.size) : TxtO B w' ob' v l := by
  obtain ⟨g, c, rfl, hc, hB, hg, hn, hj⟩ := h
  refine ⟨g, c, rfl, hc, hB, Nat.lt_of_lt_of_le hg t.size, ?_, fun j h => (t.cell hg hn).trans (hj j h)⟩
  rcases ho with e | e
  · rw [e]; exact hn
  · rw [e]; intro e2; cases e2; omega
theorem TxtO.below {B : Nat} {w w' : World} {ob : Option Nat} {v : Value} {l : List ByteArray} (h : TxtO B w ob v l) (hb : Below w.heap.size w w') : TxtO B w' ob v l := by
  obtain ⟨g, c, rfl, hc, hB, hg, hn, hj⟩ := h
  exact ⟨g, c, rfl, hc, hB, Nat.lt_of_lt_of_le hg hb.size, hn, fun j h => (hb.cell (p := ⟨g, j, none⟩) hg).trans (hj j h)⟩
theorem TxtO.of {w : World} {B B' : Nat} {ob : Option Nat} {v : Value} {l : List ByteArray} (h : Own w B v l) (hl : 0 < l.length) (hB' : B' ≤ B) (ho : ∀ k, ob = some k → k < B) : TxtO B' w ob v l := by
  obtain ⟨g, c, rfl, hc, hB, hg⟩ := own_ex h hl
  refine ⟨g, c, rfl, hc, Nat.le_trans hB' hB, hg, fun e => by have := ho g e; omega, fun j hj => ?_⟩
  rw [own_in h j hj, List.getD_eq_getElem?_getD, List.getElem?_eq_getElem hj]
  rfl
/-- What was read raw at the first places. -/
structure RawsV (B : Nat) (w : World) (v : Value) (R : Nat → List ByteArray) (n : Nat) : Prop where
  own : ∃ l, l.length = n ∧ OwnS B w v l ∧ ∀ j (h : j < l.length), TxtO B w v.ownBlock l[j] (R j)
theorem RawsV.nil (B : Nat) (w : World) (R : Nat → List ByteArray) : RawsV B w (.slice none 0 0) R 0 := ⟨[], rfl, OwnS.nil B w, fun _ h => absurd h (Nat.not_lt_zero _)⟩
theorem RawsV.below {B n : Nat} {w w' : World} {v : Value} {R : Nat → List ByteArray} (h : RawsV B w v R n) (hb : Below w.heap.size w w') : RawsV B w' v R n := by
  obtain ⟨l, hl, hO, hT⟩ := h
  exact ⟨l, hl, hO.below hb, fun j hj => (hT j hj).below hb⟩
theorem RawsV.lt {B n : Nat} {w : World} {v : Value} {R : Nat → List ByteArray} (h : RawsV B w v R n) : ∀ k, v.ownBlock = some k → k < w.heap.size := by
  obtain ⟨l, hl, hO, hT⟩ := h
  exact fun k hk => (World.ownsRow.lt hO k hk).2
/-- What was read raw, as it is read. -/
def RawsAt (g n : Nat) (R : Nat → List ByteArray) (W : World) : Prop := g < W.heap.size ∧ ∀ j, j < n → ∃ v, W.cell? ⟨g, j, none⟩ = some v ∧ Txt W v (R j)
theorem RawsAt.next {g n : Nat} {R : Nat → List ByteArray} {W W' : World} (h : RawsAt g n R W) (hb : Below W.heap.size W W') : RawsAt g n R W' :=
  ⟨Nat.lt_of_lt_of_le h.1 hb.size, fun j hj => by
    obtain ⟨v, h1, h2⟩ := h.2 j hj
    exact ⟨v, (hb.cell (p := ⟨g, j, none⟩) h.1).trans h1, h2.below hb⟩⟩
theorem RawsV.at_ {B n : Nat} {w : World} {v : Value} {R : Nat → List ByteArray} (h : RawsV B w v R n) (hn : 0 < n) : ∃ g c, v = .slice (some ⟨g, 0, none⟩) n c ∧ New B w (RawsAt g n R) := by
  obtain ⟨l, rfl, hO, hT⟩ := h
  obtain ⟨g, c, rfl, hg, hc⟩ := hO.at_ hn
  have hB : B ≤ g := (World.ownsRow.lt hO g rfl).1
  refine ⟨g, c, rfl, fun w' hz hb => ⟨Nat.lt_of_lt_of_le hg hz, fun j hj => ⟨l[j], ?_, ?_⟩⟩⟩
  · exact (World.cell?_of_block (w := w) (hb g hB hg)).trans (hc j hj)
  · obtain ⟨gj, cj, e, hcj, hBj, hgj, _, hjj⟩ := hT j hj
    rw [e]
    exact ⟨_, _, rfl, hcj, fun i hi => ⟨gj, 0, rfl, Nat.lt_of_lt_of_le hgj hz, by
      rw [Nat.zero_add]
      exact (World.cell?_of_block (w := w) (hb gj hBj hgj)).trans (hjj i hi)⟩⟩
theorem grown_raws {w w' : World} {g : Option Nat} (h : w.grownBy w' g) : Turn (fun k => g = some k) w w' := grown_turn h fun _ hk => hk
theorem RawsV.snoc {B n : Nat} {w w' : World} {v v' b : Value} {R : Nat → List ByteArray} {l : List Value} (hl : l.length = n) (hT : ∀ j (h : j < l.length), TxtO B w v.ownBlock l[j] (R j)) (hb : TxtO B w v.ownBlock b (R n))
    (hO : OwnS B w' v' (l ++ [b])) (hg : w.grownBy w' v.ownBlock) (hv : v'.ownBlock = v.ownBlock ∨ v'.ownBlock = some w.heap.size) : RawsV B w' v' R (n + 1) := by
  have t := grown_raws hg
  refine ⟨l ++ [b], by simp [hl], hO, fun j hj => ?_⟩
  by_cases e : j < l.length
  · rw [List.getElem_append_left e]
    exact (hT j e).turn t hv
  · obtain rfl : j = n := by simp at hj; omega
    have e2 : (l ++ [b])[j] = b := by
      rw [List.getElem_append_right (by omega)]
      simp [hl]
    rw [e2]
    exact hb.turn t hv

theorem bl_at {B : Nat} {W : World} {g n c : Nat} {L : List Bool} (h : OwnBl B W (.slice (some ⟨g, 0, none⟩) n c) L) (i : Nat) (hi : i < L.length) : W.cell? ⟨g, i, none⟩ = some (.bool (L.getD i false)) := by
  have hcells := fun g hg => World.ownsRow.cells (g := g) h hg
  rcases h.2 with ⟨e, _⟩ | ⟨g', cap, cur, e, hB, hg, _⟩
  · cases e
  · simp only [Value.slice.injEq, Option.some.injEq, Addr.mk.injEq, and_true] at e
    obtain ⟨rfl, _⟩ := e
    have := hcells g rfl i (.bool L[i]) (by rw [List.getElem?_map, List.getElem?_eq_getElem hi]; rfl)
    rw [Go.WideShapes.add_plain, Nat.zero_add] at this
    rw [this, List.getD_eq_getElem?_getD, List.getElem?_eq_getElem hi]
    rfl
/-- Who is here, as laid tells it. -/
def HereV (W : World) (gH n : Nat) (hr : Nat → Bool) : Prop := ∀ i, i < n → W.cell? ⟨gH, i, none⟩ = some (.bool (hr i))
theorem HereV.of {B : Nat} {W : World} {hv : Value} {nA nL n : Nat} {fA fL : Nat → Bool} (h : OwnBl B W hv (hereTo nA nL fA fL n)) (hn : 1 ≤ n) {hr : Nat → Bool} (hh : ∀ i, i < n → hr i = (!saysB nA fA i && !saysB nL fL i)) :
    ∃ gH cH, hv = .slice (some ⟨gH, 0, none⟩) n cH ∧ gH < W.heap.size ∧ HereV W gH n hr := by
  have hlen : (hereTo nA nL fA fL n).length = n := hereTo_len _ _ _ _ _
  rcases h.2 with ⟨_, e⟩ | ⟨g, cap, cur, e, hB, hg, rest⟩
  · omega
  · subst e
    rw [hlen]
    refine ⟨g, cap, rfl, (Array.getElem?_eq_some_iff.1 hg).1, fun i hi => ?_⟩
    have e := bl_at h i (by rw [hlen]; exact hi)
    rw [e, hh i hi]
    unfold hereTo
    rw [List.getD_eq_getElem?_getD, List.getElem?_map, List.getElem?_range hi]
    rfl
/-- What the last loops of HealPlays read. -/
structure PlF (a : Option Addr) (gn gc : Nat) (sc : Int) (l : List (Int × Int)) (bG bq : Nat) (sz : Int) (gR N : Nat) (R : Nat → List ByteArray) (gP : Nat) (q : Ptr) (gV n : Nat) (hr : Nat → Bool) (bb : Nat) (t : ByteArray) (Nf : Int) (W : World) : Prop where
  g0 : W.cell? ⟨bG, 0, none⟩ = some (.slice a gn gc)
  g1 : W.cell? ⟨bG, 1, none⟩ = some (.int .i64 sc)
  m : Meas W (.agg #[.slice a gn gc, .int .i64 sc]) l sc
  p5 : W.cell? ⟨bq, 5, none⟩ = some (.int .i64 sz)
  r : RawsAt gR N R W
  pl : PlA W gP q
  hv : HereV W gV n hr
  b0 : W.cell? ⟨bb, 0, none⟩ = some (.string t)
  b3 : W.cell? ⟨bb, 3, none⟩ = some (.int .i64 Nf)
theorem PlF.next {a : Option Addr} {gn gc : Nat} {sc : Int} {l : List (Int × Int)} {bG bq : Nat} {sz : Int} {gR N : Nat} {R : Nat → List ByteArray} {gP : Nat} {q : Ptr} {gV n : Nat} {hr : Nat → Bool} {bb : Nat} {t : ByteArray} {Nf : Int} {W W' : World}
    (h : PlF a gn gc sc l bG bq sz gR N R gP q gV n hr bb t Nf W) (hb : Below W.heap.size W W') : PlF a gn gc sc l bG bq sz gR N R gP q gV n hr bb t Nf W' :=
  ⟨(hb.cell (p := ⟨bG, 0, none⟩) (World.block_lt_of_cell? W _ h.g0)).trans h.g0, (hb.cell (p := ⟨bG, 1, none⟩) (World.block_lt_of_cell? W _ h.g1)).trans h.g1, h.m.below hb, (hb.cell (p := ⟨bq, 5, none⟩) (World.block_lt_of_cell? W _ h.p5)).trans h.p5, h.r.next hb, h.pl.next hb,
    fun i hi => (hb.cell (p := ⟨gV, i, none⟩) (World.block_lt_of_cell? W _ (h.hv i hi))).trans (h.hv i hi), (hb.cell (p := ⟨bb, 0, none⟩) (World.block_lt_of_cell? W _ h.b0)).trans h.b0, (hb.cell (p := ⟨bb, 3, none⟩) (World.block_lt_of_cell? W _ h.b3)).trans h.b3⟩
end Go.Proofs.YtiffkbmcikiioaaGreat

/-
  Regions of Rs: a step of a guarded operation that is wanted.
-/
namespace Go.Proofs.YtiffkbmcikiioaaGreat
set_option maxRecDepth 100000

section
variable {P : Program} {ops : Array Oper} {Q : Exit → Act → World → Prop} {md : Region.Mode} {S : World → Prop} {s : Nat}
/-- Number i is taken first, and its slot is named: the frame can be laid out behind it. -/
theorem wpAnyS_takeD {i : Nat} (d : Tmp) (v : Value) {oi : Oper} {fuel : Nat} {listed : Array Bool} {a : Act} {w : World} (hi : ops[i]? = some oi) (hd : oi.dst = some d) (hs : Region.noSelect ops = true) (hf : Region.free md ops listed i = true)
    (hr : (Region.ready md ops listed).contains i = true) (hwait : ((ops[s]?).any fun o => o.after.any fun e => Region.binds md e && e.on == i) = true)
    (hQ : ∀ c a w, Q (.panic c) (a.put oi.dst v) w → Q (.panic c) a w) (hw : Region.wanted oi (yielded ops a.tmps) = true) (hy : ∀ w, S w → (execOp a.eval oi).run P w = .ok (.value v) w) (hS : S w)
    (h : wpAnyS P md ops Q S s fuel (listed.setIfInBounds i true) (a.put (some d) v) w) : wpAnyS P md ops Q S s (fuel + 1) listed a w :=
  wpAnyS_take v hi hs hf hr hwait hQ (.inl ⟨hw, hy⟩) hS (by rw [hd]; exact h)
/-- The one that may come up, and is wanted, is carried out. -/
theorem wpAnyS_stepW {i : Nat} {o : Oper} {fuel : Nat} {listed : Array Bool} {a : Act} {w : World} (hr : Region.ready md ops listed = [i]) (ho : ops[i]? = some o) (hg : Region.wanted o (yielded ops a.tmps) = true)
    (h : ∀ K : Act → World → Prop, (∀ a' w', (i ≠ s → S w') → wpAnyS P md ops Q S s fuel (listed.setIfInBounds i true) a' w' → K a' w') → o.wp P a w K Q) : wpAnyS P md ops Q S s (fuel + 1) listed a w := by
  refine ⟨(fun e => by rw [hr] at e; cases e), fun j hj => ?_⟩
  rw [hr] at hj
  obtain rfl := List.mem_singleton.1 hj
  unfold wpOp
  simp only [ho]
  rw [if_pos hg]
  exact .inl (h _ fun a' w' hS hw => ⟨hS, hw⟩)
end
end Go.Proofs.YtiffkbmcikiioaaGreat
