/-
  heal.Read, where a block is found.
-/
import Derived.Test.YtiffkbmcikiioaaGreatY44
import Derived.Test.YtiffkbmcikiioaaGreatY22

/- heal.Read, where a block is found. -/
namespace Go.Proofs.YtiffkbmcikiioaaGreat
set_option maxRecDepth 100000
open Go.RowKit Go.Shelf Go.Maps M

section
variable {B : Nat} {w : World} {x : Px} {l : List (Int × Int)} {ds : Nat → Dv} {aw : Nat → Bool} {K : Nat} {P : World → Prop} {p : Ptr} {z : Nat}
/-- The devices, and how many columns were taken, behind Read. -/
def readS (l : List (Int × Int)) (aw : Nat → Bool) (p : Ptr) (z : Nat) (s : ByteArray) (ds : Nat → Dv) (i : Nat) : Nat → Dv := if i = 0 then fixP l aw p z s ds 0 else fixP l aw p z s (fixP l aw p z s ds i) 0
def readN (l : List (Int × Int)) (aw : Nat → Bool) (p : Ptr) (z : Nat) (s : ByteArray) (ds : Nat → Dv) (i : Nat) : Nat := if i = 0 then unlP l aw p z s ds 0 else unlP l aw p z s ds i + unlP l aw p z s (fixP l aw p z s ds i) 0
/-- A place in a box. -/
structure PlBox (b : Nat) (k t : Int) (w : World) : Prop where
  c0 : w.cell? ⟨b, 0, none⟩ = some (.int .i64 k)
  c1 : w.cell? ⟨b, 1, none⟩ = some (.int .i64 t)
  lt : b < w.heap.size
theorem PB.with_ {x : Px} {l : List (Int × Int)} {b : Nat} {P R : World → Prop} {W : World} (h : PB x l b P W) (hR : ∀ W', Turn (fun k => k = b) W W' → R W') : PB x l b (fun W => P W ∧ R W) W := fun W' t => ⟨(h W' t).1, (h W' t).2, hR W' t⟩
theorem PlBox.turn {b b8 : Nat} {k t : Int} {W W' : World} (h : PlBox b8 k t W) (tn : Turn (fun k => k = b) W W') (hne : b8 ≠ b) : PlBox b8 k t W' :=
  ⟨(tn.cell (o := 0) h.lt hne).trans h.c0, (tn.cell (o := 1) h.lt hne).trans h.c1, Nat.lt_of_lt_of_le h.lt tn.size⟩
theorem PlBox.new {b B : Nat} {k t : Int} {W : World} (h : PlBox b k t W) (hB : B ≤ b) : New B W (PlBox b k t) := fun w' hz hb =>
  ⟨New.cell h.c0 hB w' hz hb, New.cell h.c1 hB w' hz hb, Nat.lt_of_lt_of_le h.lt hz⟩
/-- What stands beside the devices in Read. -/
def RP (x : Px) (l : List (Int × Int)) (p : Ptr) (P : World → Prop) (b b8 : Nat) (ka ta : Int) (W : World) : Prop := (PB x l (b + 2) P W ∧ BoxX x b W ∧ Box W (b + 1) p ∧ CameC (b + 2) ⟨#[]⟩ 0 0 0 W) ∧ PlBox b8 ka ta W
theorem StX.lt_ {X : Nat → Prop} {B : Nat} {w : World} {x : Px} {l : List (Int × Int)} {ds : Nat → Dv} {aw : Nat → Bool} {K : Nat} {P : World → Prop} (h : StX X B w x l ds aw K P) : B ≤ w.heap.size := h.lt.2
set_option maxHeartbeats 4000000 in
theorem hread_ok (h : St B w x l ds aw K P) (hp : PR l x.sc p z) {i : Nat} {d : Int} {s : ByteArray} (hf : lookTo p.q (TT l x.sc p z (RW ds aw l p z)) (nP p) = some (i, d, s)) (hK : K < 3000000000) :
    Calls Tryz.prog 12 #[x.val, p.val] w fun e w' => e = .returned (.tuple #[.agg #[.string s, .int .i64 (i : Int), .int .i64 d, .int .i64 (readN l aw p z s ds i : Int)], .int .i64 0]) ∧ St B w' x l (readS l aw p z s ds i) aw (K + 64) P ∧ Below B w w' := by
  obtain ⟨W0, hW0, H0, B0⟩ := boxesR h p
  have HL := Lib.hid (look_ok H0 hp)
  rw [lookV_some hf] at HL
  obtain ⟨hin, hhit, _⟩ := lookTo_some hf
  have hss : s.size = z * 64 := (H0.calls hp).sz i hin (d, s) (hitQ_some hhit).1
  have HW0 := Lib.hid hW0
  have HST0 := Lib.hid H0
  have HB0 := Lib.hid (B0.mono h.lt.2)
  have HLT := Lib.hid (Nat.le_trans h.lt.2 B0.size)
  have HLW : Hid (B ≤ w.heap.size + 2) := Lib.hid (by have := h.lt.2; omega)
  have HPR := Lib.hid hp
  have HSS := Lib.hid hss
  have HIN := Lib.hid hin
  have HPL : Hid (∀ W, Calls Tryz.prog 19 #[p.val] W fun e w' => ∃ g, e = .returned (.slice (some ⟨g, 0, none⟩) (nP p) (nP p)) ∧ PlA w' g p ∧ Below W.heap.size W w') := Lib.hid fun W => places_pr p hp.ne W
  have hn2 := nP_le p
  have hn1 := nP_pos p
  obtain ⟨_, ⟨x0, x1, x2, x3⟩, ⟨p0, p1, p2, p3, p4, p5, p6, p7, p8, p9, p10, p11, plt⟩, _⟩ := H0.out
  clear h H0 hp hf hW0 B0 plt hss hhit
  simp only [Ptr.val, Ptr.cells] at HL HW0 HPL ⊢
  unfold Px.val at HL ⊢
  obtain ⟨n, hnn⟩ : ∃ n, nP p = n := ⟨_, rfl⟩
  rw [hnn] at HPL hin hn2 hn1
  have HNN := Lib.hid hnn
  clear hnn
  go_enter Tryz.func12, Tryz.ntmps12
  go_wp2_with (first | (rw [HW0.out]; fail))
  rw [HW0.out]
  go_wp2_with fail
  refine HL.out.mono ?_
  rintro e w4 ⟨rfl, b4⟩
  have hbx := boxed w4 (.cells #[.string s, .int .i64 (i : Int), .int .i64 d, .int .i64 0] 45)
  have H5 := (HST0.out.below b4).mine hbx w4.heap.size (Nat.le_refl _) (CameC.new w4 s i d 0 w4.heap.size (Nat.le_refl _))
  have HB5 := Lib.hid (HB0.out.trans ((next b4 hbx).mono HLT.out))
  have HL5 : Hid (B ≤ w4.heap.size) := Lib.hid (Nat.le_trans HLT.out b4.size)
  have HST5 := Lib.hid H5
  have hblt : w4.heap.size < (w4.alloc (.cells #[.string s, .int .i64 (i : Int), .int .i64 d, .int .i64 0] 45)).heap.size := by simp
  have hwlt : w.heap.size + 2 < w4.heap.size := by
    have := World.block_lt_of_cell? _ _ (HST0.out.below b4).out.2.2.2.c0
    exact this
  clear x0 x1 x2 x3 p0 p1 p2 p3 p4 p5 p6 p7 p8 p9 p10 p11 b4 HL hbx H5 HST0 HB0 HLT
  have q1 : (i : Int) < (n : Int) := by omega
  have q2 : (0 : Int) ≤ (i : Int) := by omega
  obtain ⟨hpb, ⟨c0, c1, c2, c3, f0, f1, f2, f3⟩⟩ := HST5.out.out
  obtain ⟨_, ⟨x0, x1, x2, x3⟩, ⟨p0, p1, p2, p3, p4, p5, p6, p7, p8, p9, p10, p11, plt⟩, _⟩ := hpb.out
  clear hpb
  go_upto_region 4 with (fail)
  obtain ⟨w5, hw5⟩ : ∃ w5, w4.alloc (.cells #[.string s, .int .i64 (i : Int), .int .i64 d, .int .i64 0] 45) = w5 := ⟨_, rfl⟩
  rw [hw5] at HB5 HST5 hblt c0 c1 c2 c3 f0 f1 f2 f3 x0 x1 x2 x3 p0 p1 p2 p3 p4 p5 p6 p7 p8 p9 p10 p11 plt ⊢
  clear hw5
  obtain ⟨b6, hb6⟩ : ∃ b6, w4.heap.size = b6 := ⟨_, rfl⟩
  rw [hb6] at HST5 HL5 hblt hwlt c0 c1 c2 c3 f0 f1 f2 f3 ⊢
  clear hb6
  obtain ⟨ka, hka⟩ : ∃ ka, (atP p i).1 = ka := ⟨_, rfl⟩
  obtain ⟨ta, hta⟩ : ∃ ta, (atP p i).2 = ta := ⟨_, rfl⟩
  have HPA : Hid (∀ W g, PlA W g p → W.cell? ⟨g, i * 2, none⟩ = some (.int .i64 ka) ∧ W.cell? ⟨g, i * 2 + 1, none⟩ = some (.int .i64 ta)) := Lib.hid fun W g hg => by
    rw [← hka, ← hta]; exact hg.2 i HIN.out
  have HKA := Lib.hid hka
  have HTA := Lib.hid hta
  clear hka hta
  go_cut [8] (fun s8 wc => ∃ b8, s8 = .pointer (some ⟨b8, 0, none⟩) ∧ PlBox b8 ka ta wc ∧ w5.heap.size ≤ b8 ∧ Below w5.heap.size w5 wc)
  case first =>
    have hS0 : Below w5.heap.size w5 w5.drew := (Below.refl _ w5).drew
    have hAl : Below w5.heap.size w5 (w5.alloc (.cells #[.int .i64 0, .int .i64 0] 26)) := boxed w5 _
    have hAld : Below w5.heap.size w5 (w5.alloc (.cells #[.int .i64 0, .int .i64 0] 26)).drew := hAl.drew
    have a0 := (hAl.cell (p := ⟨w.heap.size + 1, 0, none⟩) plt).trans p0
    have a1 := (hAl.cell (p := ⟨w.heap.size + 1, 1, none⟩) plt).trans p1
    have a2 := (hAl.cell (p := ⟨w.heap.size + 1, 2, none⟩) plt).trans p2
    have a3 := (hAl.cell (p := ⟨w.heap.size + 1, 3, none⟩) plt).trans p3
    have a4 := (hAl.cell (p := ⟨w.heap.size + 1, 4, none⟩) plt).trans p4
    have a5 := (hAl.cell (p := ⟨w.heap.size + 1, 5, none⟩) plt).trans p5
    have a6 := (hAl.cell (p := ⟨w.heap.size + 1, 6, none⟩) plt).trans p6
    have a7 := (hAl.cell (p := ⟨w.heap.size + 1, 7, none⟩) plt).trans p7
    have a8 := (hAl.cell (p := ⟨w.heap.size + 1, 8, none⟩) plt).trans p8
    have a9 := (hAl.cell (p := ⟨w.heap.size + 1, 9, none⟩) plt).trans p9
    have a10 := (hAl.cell (p := ⟨w.heap.size + 1, 10, none⟩) plt).trans p10
    have a11 := (hAl.cell (p := ⟨w.heap.size + 1, 11, none⟩) plt).trans p11
    have a12 := (hAl.cell (p := ⟨b6, 1, none⟩) hblt).trans c1
    have HCP : Hid (∀ W : World, Below w5.heap.size w5 W → Calls Tryz.prog 19 #[.agg #[.int .i64 p.ag, .int .i64 p.aa, .int .i64 p.bg, .int .i64 p.ba, .bool p.two, .int .i64 p.sz, .int .i64 p.lv, .int .i64 p.bi, .int .u64 p.q.a, .int .u64 p.q.b, .int .u64 p.q.c, .int .u64 p.q.d]] W fun e w' => ∃ g, e = .returned (.slice (some ⟨g, 0, none⟩) n n) ∧ (w'.cell? ⟨g, i * 2, none⟩ = some (.int .i64 ka) ∧ w'.cell? ⟨g, i * 2 + 1, none⟩ = some (.int .i64 ta) ∧ (w'.alloc (.cells #[.int .i64 0, .int .i64 0] 26)).cell? ⟨g, i * 2, none⟩ = some (.int .i64 ka) ∧ (w'.alloc (.cells #[.int .i64 0, .int .i64 0] 26)).cell? ⟨g, i * 2 + 1, none⟩ = some (.int .i64 ta)) ∧ (w'.cell? ⟨b6, 1, none⟩ = some (.int .i64 (i : Int)) ∧ (w'.alloc (.cells #[.int .i64 0, .int .i64 0] 26)).cell? ⟨b6, 1, none⟩ = some (.int .i64 (i : Int))) ∧ Below W.heap.size W w' ∧ Below w5.heap.size w5 w') := Lib.hid fun W hb =>
      (HPL.out W).mono fun e w' ⟨g, h1, h2, h3⟩ => by
        have hz := HPA.out _ _ h2
        have hbw := next hb h3
        have hal := boxed w' (.cells #[.int .i64 0, .int .i64 0] 26)
        have hb6 := Nat.lt_of_lt_of_le hblt hbw.size
        have hc1 := (hbw.cell (p := ⟨b6, 1, none⟩) hblt).trans c1
        exact ⟨g, h1, ⟨hz.1, hz.2, (hal.cell (p := ⟨g, i * 2, none⟩) h2.1).trans hz.1, (hal.cell (p := ⟨g, i * 2 + 1, none⟩) h2.1).trans hz.2⟩, ⟨hc1, (hal.cell (p := ⟨b6, 1, none⟩) hb6).trans hc1⟩, h3, hbw⟩
    clear HPL HPA x0 x1 x2 x3 c0 c2 c3 f0 f1 f2 f3
    go_region_with (first
      | (go_at_call 19; refine (HCP.out _ ?_).mono ?_; (first | with_reducible exact hS0 | with_reducible exact hAld | with_reducible exact hAl); rintro e w7 ⟨g7, rfl, ⟨z0, z1, z2, z3⟩, ⟨m0, m1⟩, b7, bw7⟩; have bz7 := b7.size;
         (have q1 := @Below.cell _ _ _ b7 ⟨w5.heap.size, 0, none⟩); (have q2 := @Below.cell _ _ _ b7 ⟨w5.heap.size, 1, none⟩); (have q3 := @Below.frozen _ _ _ b7 ⟨w5.heap.size, 0, none⟩); (have q4 := @Below.frozen _ _ _ b7 ⟨w5.heap.size, 1, none⟩); (try simp at q1); (try simp at q2); (try simp at q3); (try simp at q4); (try simp at bz7)))
    all_goals
      go_wp2_with fail
      go_meet
      refine ⟨_, rfl, ⟨?_, ?_, ?_⟩, ?_, ?_⟩
      · first | (simp; done) | (simp [World.cell?_setCell_other, World.cell?_setCell_same', q1]; done)
      · first | (simp; done) | (simp [World.cell?_setCell_other, World.cell?_setCell_same', q2]; done)
      · first | (simp; done) | (simp [World.setCell]; omega)
      · first | exact Nat.le_refl _ | exact bw7.size
      · repeat (first | with_reducible exact hS0 | with_reducible exact bw7 | with_reducible exact Below.refl _ _ | with_reducible refine grows_alloc ?_ _ | with_reducible refine grows_set ?_ (by omega) _ | with_reducible refine Below.drew ?_)
  case rest =>
    obtain ⟨b8, rfl, hpl, hge, hb5⟩ := hcut
    have hne : b8 ≠ b6 := by omega
    have H7 : St B wc x l ds aw K (fun W => PB x l b6 (RP x l p P w.heap.size b8 ka ta) W ∧ CameC b6 s (i : Int) d 0 W) :=
      (HST5.out.add hb5 (hpl.new hge)).mono fun W h => ⟨h.1.1.with_ fun W' t => h.2.turn t hne, h.1.2⟩
    have H7' := Lib.hid H7
    have hm7 := mendP_ok H7 HPR.out HIN.out s HSS.out (by omega)
    have HBc := Lib.hid (HB5.out.trans (hb5.mono (Nat.le_trans HL5.out (Nat.le_of_lt hblt))))
    have hLw : Hid (B ≤ w.heap.size + 2) := HLW
    have HU := Lib.hid (unlP_le HPR.out aw s ds HIN.out)
    have hi01 : i = 0 ∨ i = 1 := by omega
    clear x0 x1 x2 x3 p0 p1 p2 p3 p4 p5 p6 p7 p8 p9 p10 p11 plt c0 c1 c2 c3 f0 f1 f2 f3 H7 hpl hb5 HST5 HB5 HPL HPA
    rcases hi01 with rfl | rfl
    · obtain rfl : p.ag = ka := HKA.out
      obtain rfl : p.aa = ta := HTA.out
      have HM7 : Hid (Calls Tryz.prog 39 #[x.val, .agg #[.int .i64 p.ag, .int .i64 p.aa], .string s] wc fun e w' => e = .returned (.int .i64 (unlP l aw p z s ds 0 : Int)) ∧ St B w' x l (fixP l aw p z s ds 0) aw (K + 32) (fun W => PB x l b6 (RP x l p P w.heap.size b8 p.ag p.aa) W ∧ CameC b6 s ((0 : Nat) : Int) d 0 W) ∧ Below B wc w') := Lib.hid hm7
      obtain ⟨N0, hN0⟩ : ∃ N, unlP l aw p z s ds 0 = N := ⟨_, rfl⟩
      have hu32 := HU.out
      rw [hN0] at HM7 hu32
      have HN0 := Lib.hid hN0
      clear hm7 hN0
      unfold Px.val at HM7
      obtain ⟨hpb, ⟨c0, c1, c2, c3, f0, f1, f2, f3⟩⟩ := H7'.out.out
      obtain ⟨⟨_, ⟨x0, x1, x2, x3⟩, ⟨p0, p1, p2, p3, p4, p5, p6, p7, p8, p9, p10, p11, plt⟩, _⟩, ⟨k0, k1, klt⟩⟩ := hpb.out
      clear hpb plt klt
      go_wp2_with fail
      refine HM7.out.mono ?_
      rintro e w9 ⟨rfl, h9, b9⟩
      have H9 := Lib.hid h9
      have HB9 := Lib.hid (HBc.out.trans b9)
      have hw10 := StX.write h9 (fun W h => h.c3) ((Turn.refl (fun k => k = b6) w9).setCell (p := ⟨b6, 3, none⟩) (.inl rfl) (.int .i64 (N0 : Int))) (fun W e => (h9.out.2.set3 (N0 : Int)).of e)
      have H10 := Lib.hid hw10.1
      have HB10 := Lib.hid (HB9.out.setCell (p := ⟨b6, 3, none⟩) hw10.2 (.int .i64 (N0 : Int)))
      clear x0 x1 x2 x3 p0 p1 p2 p3 p4 p5 p6 p7 p8 p9 p10 p11 c0 c1 c2 c3 f0 f1 f2 f3 k0 k1 HM7 hw10 b9 H7' HBc
      obtain ⟨_, ⟨_, _, _, c3', _, _, _, f3'⟩⟩ := h9.out
      clear h9
      obtain ⟨hpb, ⟨c0, c1, c2, c3, f0, f1, f2, f3⟩⟩ := H10.out.out
      obtain ⟨⟨_, ⟨x0, x1, x2, x3⟩, ⟨p0, p1, p2, p3, p4, p5, p6, p7, p8, p9, p10, p11, plt⟩, ⟨r0, r1, r2, r3, s0, s1, s2, s3⟩⟩, ⟨k0, k1, klt⟩⟩ := hpb.out
      clear hpb plt klt
      -- the end
      have HF := Lib.hid (StX.write (H10.out.mono fun W h => ⟨h.1.out.1.1, h.1.out.1.2⟩) (fun W (h : BoxX x w.heap.size W ∧ Box W (w.heap.size + 1) p ∧ CameC (w.heap.size + 2) ⟨#[]⟩ 0 0 0 W) => h.2.2.c0) (putC_turn (w9.setCell ⟨b6, 3, none⟩ (.int .i64 (N0 : Int))) (w.heap.size + 2) s 0 d (N0 : Int)) (Q' := fun _ => True) (fun _ _ => trivial))
      have HCF := Lib.hid (H10.out.out.1.out.1.2.2.2.put s 0 d (N0 : Int))
      obtain ⟨g0, g1, g2, g3, _, _, _, _⟩ := HCF.out
      unfold putC at g0 g1 g2 g3
      go_wp2
      refine bodyPost_ret (v := .tuple #[.agg #[.string s, .int .i64 0, .int .i64 d, .int .i64 (N0 : Int)], .int .i64 0]) ?_ rfl ⟨?_, ?_, ?_⟩
      · simp [results, Tryz.results12, go_sem, g0, g1, g2, g3]
      · unfold readN
        rw [if_pos rfl, HN0.out]
        rfl
      · unfold readS
        rw [if_pos rfl]
        exact (HF.out.1.mono fun W h => h.1.out).more (by omega)
      · exact HB10.out.trans ((putC_turn _ (w.heap.size + 2) s 0 d (N0 : Int)).below (fun k hk => by have := hLw.out; omega) H10.out.lt_)
    · obtain rfl : p.bg = ka := HKA.out
      obtain rfl : p.ba = ta := HTA.out
      have HM7 : Hid (Calls Tryz.prog 39 #[x.val, .agg #[.int .i64 p.bg, .int .i64 p.ba], .string s] wc fun e w' => e = .returned (.int .i64 (unlP l aw p z s ds 1 : Int)) ∧ St B w' x l (fixP l aw p z s ds 1) aw (K + 32) (fun W => PB x l b6 (RP x l p P w.heap.size b8 p.bg p.ba) W ∧ CameC b6 s ((1 : Nat) : Int) d 0 W) ∧ Below B wc w') := Lib.hid hm7
      obtain ⟨N0, hN0⟩ : ∃ N, unlP l aw p z s ds 1 = N := ⟨_, rfl⟩
      have hu32 := HU.out
      rw [hN0] at HM7 hu32
      have HN0 := Lib.hid hN0
      clear hm7 hN0
      unfold Px.val at HM7
      obtain ⟨hpb, ⟨c0, c1, c2, c3, f0, f1, f2, f3⟩⟩ := H7'.out.out
      obtain ⟨⟨_, ⟨x0, x1, x2, x3⟩, ⟨p0, p1, p2, p3, p4, p5, p6, p7, p8, p9, p10, p11, plt⟩, _⟩, ⟨k0, k1, klt⟩⟩ := hpb.out
      clear hpb plt klt
      go_wp2_with fail
      refine HM7.out.mono ?_
      rintro e w9 ⟨rfl, h9, b9⟩
      have H9 := Lib.hid h9
      have HB9 := Lib.hid (HBc.out.trans b9)
      have hw10 := StX.write h9 (fun W h => h.c3) ((Turn.refl (fun k => k = b6) w9).setCell (p := ⟨b6, 3, none⟩) (.inl rfl) (.int .i64 (N0 : Int))) (fun W e => (h9.out.2.set3 (N0 : Int)).of e)
      have H10 := Lib.hid hw10.1
      have HB10 := Lib.hid (HB9.out.setCell (p := ⟨b6, 3, none⟩) hw10.2 (.int .i64 (N0 : Int)))
      clear x0 x1 x2 x3 p0 p1 p2 p3 p4 p5 p6 p7 p8 p9 p10 p11 c0 c1 c2 c3 f0 f1 f2 f3 k0 k1 HM7 hw10 b9 H7' HBc
      obtain ⟨_, ⟨_, _, _, c3', _, _, _, f3'⟩⟩ := h9.out
      clear h9
      obtain ⟨hpb, ⟨c0, c1, c2, c3, f0, f1, f2, f3⟩⟩ := H10.out.out
      obtain ⟨⟨_, ⟨x0, x1, x2, x3⟩, ⟨p0, p1, p2, p3, p4, p5, p6, p7, p8, p9, p10, p11, plt⟩, ⟨r0, r1, r2, r3, s0, s1, s2, s3⟩⟩, ⟨k0, k1, klt⟩⟩ := hpb.out
      clear hpb plt klt
      have hd1 : p.two = true := by
        cases e : p.two with
        | true => rfl
        | false =>
          have := HNN.out
          unfold nP at this
          rw [e] at this
          simp at this
          omega
      have hdd := HPR.out.diff hd1
      have hor : (¬ p.bg = p.ag) ∨ (¬ p.ba = p.aa) := by
        by_cases e1 : p.bg = p.ag
        · exact .inr fun e2 => hdd ⟨e1.symm, e2.symm⟩
        · exact .inl e1
      clear hdd hd1
      have hm11 := mendP_ok (H10.out.below (Below.refl _ _).drew) HPR.out (j := 0) (by have := HIN.out; omega) s HSS.out (by omega)
      have hu2 := unlP_le HPR.out aw s (fixP l aw p z s ds 1) (j := 0) (by have := HIN.out; omega)
      obtain ⟨N1, hN1⟩ : ∃ N, unlP l aw p z s (fixP l aw p z s ds 1) 0 = N := ⟨_, rfl⟩
      rw [hN1] at hm11 hu2
      have HM11 : Hid (Calls Tryz.prog 39 #[x.val, .agg #[.int .i64 p.ag, .int .i64 p.aa], .string s] (w9.setCell ⟨b6, 3, none⟩ (.int .i64 (N0 : Int))).drew fun e w' => e = .returned (.int .i64 (N1 : Int)) ∧ St B w' x l (fixP l aw p z s (fixP l aw p z s ds 1) 0) aw (K + 32 + 32) (fun W => PB x l b6 (RP x l p P w.heap.size b8 p.bg p.ba) W ∧ CameC b6 s ((1 : Nat) : Int) d (N0 : Int) W) ∧ Below B (w9.setCell ⟨b6, 3, none⟩ (.int .i64 (N0 : Int))).drew w') := Lib.hid hm11
      have HN1 := Lib.hid hN1
      clear hm11 hN1
      unfold Px.val at HM11
      rcases hor with hq | hq
      all_goals
        go_upto_region 7 with (fail)
        obtain ⟨w10, hw10⟩ : ∃ w10, w9.setCell ⟨b6, 3, none⟩ (.int .i64 (N0 : Int)) = w10 := ⟨_, rfl⟩
        rw [hw10] at HM11 H10 HB10 c0 c3 x0 x1 x2 x3 p0 p1 f3 ⊢
        clear hw10
        have hNs : IntKind.i64.wrap ((N0 : Int) + (N1 : Int)) = ((N0 + N1 : Nat) : Int) := by rw [IntKind.wrap_i64]; omega
        obtain ⟨NN, hNN⟩ : ∃ NN : Nat, N0 + N1 = NN := ⟨_, rfl⟩
        rw [hNN] at hNs
        have HNN2 := Lib.hid hNN
        clear hNN
        refine wp_region_S 10 (fun W => W.cell? ⟨w.heap.size, 0, none⟩ = some (.slice x.ga x.gn x.gc) ∧ W.cell? ⟨w.heap.size, 1, none⟩ = some (.int .i64 x.sc) ∧ W.cell? ⟨w.heap.size, 2, none⟩ = some (.slice (some ⟨x.lb, 0, none⟩) x.n x.n) ∧ W.cell? ⟨w.heap.size, 3, none⟩ = some (.slice (some ⟨x.ab, 0, none⟩) x.n x.n) ∧ W.cell? ⟨w.heap.size + 1, 0, none⟩ = some (.int .i64 p.ag) ∧ W.cell? ⟨w.heap.size + 1, 1, none⟩ = some (.int .i64 p.aa) ∧ W.cell? ⟨b6, 0, none⟩ = some (.string s) ∧ W.cell? ⟨b6, 3, none⟩ = some (.int .i64 (N0 : Int))) (by kernel_rfl) ?_
        have hS : w10.drew.cell? ⟨w.heap.size, 0, none⟩ = some (.slice x.ga x.gn x.gc) ∧ w10.drew.cell? ⟨w.heap.size, 1, none⟩ = some (.int .i64 x.sc) ∧ w10.drew.cell? ⟨w.heap.size, 2, none⟩ = some (.slice (some ⟨x.lb, 0, none⟩) x.n x.n) ∧ w10.drew.cell? ⟨w.heap.size, 3, none⟩ = some (.slice (some ⟨x.ab, 0, none⟩) x.n x.n) ∧ w10.drew.cell? ⟨w.heap.size + 1, 0, none⟩ = some (.int .i64 p.ag) ∧ w10.drew.cell? ⟨w.heap.size + 1, 1, none⟩ = some (.int .i64 p.aa) ∧ w10.drew.cell? ⟨b6, 0, none⟩ = some (.string s) ∧ w10.drew.cell? ⟨b6, 3, none⟩ = some (.int .i64 (N0 : Int)) := ⟨x0, x1, x2, x3, p0, p1, c0, c3⟩
        refine wpAnyS_take (i := 0) (.pointer (some ⟨b6, 3, none⟩)) rfl (by kernel_rfl) (by kernel_rfl) (by kernel_rfl) (by kernel_rfl) (fun _ _ _ h => h) (Or.inl ⟨by rfl, fun w' hw' => ?_⟩) hS ?_
        · (obtain ⟨s0, s1, s2, s3, s4, s5, s6, s7⟩ := hw'; go_simp)
        (try go_frame)
        refine wpAnyS_take (i := 1) (.int .i64 (N0 : Int)) rfl (by kernel_rfl) (by kernel_rfl) (by kernel_rfl) (by kernel_rfl) (fun _ _ _ h => h) (Or.inl ⟨by rfl, fun w' hw' => ?_⟩) hS ?_
        · (obtain ⟨s0, s1, s2, s3, s4, s5, s6, s7⟩ := hw'; go_simp)
        (try go_frame)
        refine wpAnyS_take (i := 2) (.agg #[.slice x.ga x.gn x.gc, .int .i64 x.sc, .slice (some ⟨x.lb, 0, none⟩) x.n x.n, .slice (some ⟨x.ab, 0, none⟩) x.n x.n]) rfl (by kernel_rfl) (by kernel_rfl) (by kernel_rfl) (by kernel_rfl) (fun _ _ _ h => h) (Or.inl ⟨by rfl, fun w' hw' => ?_⟩) hS ?_
        · (obtain ⟨s0, s1, s2, s3, s4, s5, s6, s7⟩ := hw'; go_simp)
        (try go_frame)
        refine wpAnyS_take (i := 3) (.pointer (some ⟨w.heap.size + 1, 0, none⟩)) rfl (by kernel_rfl) (by kernel_rfl) (by kernel_rfl) (by kernel_rfl) (fun _ _ _ h => h) (Or.inl ⟨by rfl, fun w' hw' => ?_⟩) hS ?_
        · (obtain ⟨s0, s1, s2, s3, s4, s5, s6, s7⟩ := hw'; go_simp)
        (try go_frame)
        refine wpAnyS_take (i := 4) (.agg #[.int .i64 p.ag, .int .i64 p.aa]) rfl (by kernel_rfl) (by kernel_rfl) (by kernel_rfl) (by kernel_rfl) (fun _ _ _ h => h) (Or.inl ⟨by rfl, fun w' hw' => ?_⟩) hS ?_
        · (obtain ⟨s0, s1, s2, s3, s4, s5, s6, s7⟩ := hw'; go_simp)
        (try go_frame)
        refine wpAnyS_take (i := 5) (.pointer (some ⟨b6, 0, none⟩)) rfl (by kernel_rfl) (by kernel_rfl) (by kernel_rfl) (by kernel_rfl) (fun _ _ _ h => h) (Or.inl ⟨by rfl, fun w' hw' => ?_⟩) hS ?_
        · (obtain ⟨s0, s1, s2, s3, s4, s5, s6, s7⟩ := hw'; go_simp)
        (try go_frame)
        refine wpAnyS_take (i := 6) (.string s) rfl (by kernel_rfl) (by kernel_rfl) (by kernel_rfl) (by kernel_rfl) (fun _ _ _ h => h) (Or.inl ⟨by rfl, fun w' hw' => ?_⟩) hS ?_
        · (obtain ⟨s0, s1, s2, s3, s4, s5, s6, s7⟩ := hw'; go_simp)
        (try go_frame)
        refine wpAnyS_step (i := 7) (by kernel_rfl) rfl rfl fun K hK => ?_
        go_simp
        refine HM11.out.mono ?_
        rintro e w12 ⟨rfl, h12, b12⟩
        have HB12 := Lib.hid ((HB10.out.trans ((Below.refl _ w10).drew.mono H10.out.lt_)).trans b12)
        have hw13 := StX.write h12 (fun W h => h.c3) ((Turn.refl (fun k => k = b6) w12).setCell (p := ⟨b6, 3, none⟩) (.inl rfl) (.int .i64 (NN : Int))) (fun W e => (h12.out.2.set3 (NN : Int)).of e)
        have H13 := Lib.hid hw13.1
        have HB13 := Lib.hid (HB12.out.setCell (p := ⟨b6, 3, none⟩) hw13.2 (.int .i64 (NN : Int)))
        obtain ⟨hpb2, ⟨e0, e1, e2, e3, g0, g1, g2, g3⟩⟩ := h12.out
        obtain ⟨⟨_, ⟨y0, y1, y2, y3⟩, ⟨t0, t1, _, _, _, _, _, _, _, _, _, _, _⟩, _⟩, _⟩ := hpb2.out
        refine hK _ _ (fun _ => ⟨y0, y1, y2, y3, t0, t1, e0, e3⟩) ?_
        have hS : w12.cell? ⟨w.heap.size, 0, none⟩ = some (.slice x.ga x.gn x.gc) ∧ w12.cell? ⟨w.heap.size, 1, none⟩ = some (.int .i64 x.sc) ∧ w12.cell? ⟨w.heap.size, 2, none⟩ = some (.slice (some ⟨x.lb, 0, none⟩) x.n x.n) ∧ w12.cell? ⟨w.heap.size, 3, none⟩ = some (.slice (some ⟨x.ab, 0, none⟩) x.n x.n) ∧ w12.cell? ⟨w.heap.size + 1, 0, none⟩ = some (.int .i64 p.ag) ∧ w12.cell? ⟨w.heap.size + 1, 1, none⟩ = some (.int .i64 p.aa) ∧ w12.cell? ⟨b6, 0, none⟩ = some (.string s) ∧ w12.cell? ⟨b6, 3, none⟩ = some (.int .i64 (N0 : Int)) := ⟨y0, y1, y2, y3, t0, t1, e0, e3⟩
        clear hK hpb2 h12 hw13 b12 HM11 x0 x1 x2 x3 p0 p1 p2 p3 p4 p5 p6 p7 p8 p9 p10 p11 c0 c1 c2 c3 f0 f1 f2 f3 r0 r1 r2 r3 s0 s1 s2 s3 k0 k1
        (try go_frame)
        refine wpAnyS_take (i := 8) (.int .i64 (NN : Int)) rfl (by kernel_rfl) (by kernel_rfl) (by kernel_rfl) (by kernel_rfl) (fun _ _ _ h => h) (Or.inl ⟨by rfl, fun w' hw' => ?_⟩) hS ?_
        · (obtain ⟨s0, s1, s2, s3, s4, s5, s6, s7⟩ := hw'; go_simp)
        (try go_frame)
        refine wpAnyS_take (i := 9) (.pointer (some ⟨b6, 3, none⟩)) rfl (by kernel_rfl) (by kernel_rfl) (by kernel_rfl) (by kernel_rfl) (fun _ _ _ h => h) (Or.inl ⟨by rfl, fun w' hw' => ?_⟩) hS ?_
        · (obtain ⟨s0, s1, s2, s3, s4, s5, s6, s7⟩ := hw'; go_simp)
        (try go_frame)
        refine wpAnyS_step (i := 10) (by kernel_rfl) rfl rfl fun K hK => ?_
        go_simp
        refine hK _ _ (fun h => absurd rfl h) ?_
        clear hK hS
        refine wpAnyS_done (by kernel_rfl) ?_ _
        clear e0 e1 e2 e3 g0 g1 g2 g3 y0 y1 y2 y3 t0 t1
        obtain ⟨hpb, ⟨c0, c1, c2, c3, f0, f1, f2, f3⟩⟩ := H13.out.out
        obtain ⟨⟨_, _, _, ⟨r0, r1, r2, r3, s0, s1, s2, s3⟩⟩, _⟩ := hpb.out
        clear hpb
        -- the end
        have HF := Lib.hid (StX.write (H13.out.mono fun W h => ⟨h.1.out.1.1, h.1.out.1.2⟩) (fun W (h : BoxX x w.heap.size W ∧ Box W (w.heap.size + 1) p ∧ CameC (w.heap.size + 2) ⟨#[]⟩ 0 0 0 W) => h.2.2.c0) (putC_turn (w12.setCell ⟨b6, 3, none⟩ (.int .i64 (NN : Int))) (w.heap.size + 2) s 1 d (NN : Int)) (Q' := fun _ => True) (fun _ _ => trivial))
        have HCF := Lib.hid (H13.out.out.1.out.1.2.2.2.put s 1 d (NN : Int))
        obtain ⟨g0, g1, g2, g3, _, _, _, _⟩ := HCF.out
        unfold putC at g0 g1 g2 g3
        go_wp2
        refine bodyPost_ret (v := .tuple #[.agg #[.string s, .int .i64 1, .int .i64 d, .int .i64 (NN : Int)], .int .i64 0]) ?_ rfl ⟨?_, ?_, ?_⟩
        · simp [results, Tryz.results12, go_sem, g0, g1, g2, g3]
        · unfold readN
          rw [if_neg (by decide), HN0.out, HN1.out, HNN2.out]
          rfl
        · unfold readS
          rw [if_neg (by decide)]
          exact (HF.out.1.mono fun W h => h.1.out).more (by omega)
        · exact HB13.out.trans ((putC_turn _ (w.heap.size + 2) s 1 d (NN : Int)).below (fun k hk => by have := hLw.out; omega) H13.out.lt_)
end
end Go.Proofs.YtiffkbmcikiioaaGreat
