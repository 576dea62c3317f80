/-
  heal.Scrub.
-/
import Derived.Test.YtiffkbmcikiioaaGreatY45
import Derived.Test.YtiffkbmcikiioaaGreatY42

/- heal.Scrub. -/
namespace Go.Proofs.YtiffkbmcikiioaaGreat
set_option maxRecDepth 100000
open Go.RowKit Go.Shelf Go.Maps M

section
variable {B : Nat} {w : World} {x : Px} {l : List (Int × Int)} {ds : Nat → Dv} {aw : Nat → Bool} {K : Nat} {P : World → Prop} {p : Ptr} {z : Nat}
/-- Nothing is found: nothing is written. -/
theorem hscrub_no (h : St B w x l ds aw K P) (hp : PR l x.sc p z) (hno : lookTo p.q (TT l x.sc p z (RW ds aw l p z)) (nP p) = none) :
    Calls Tryz.prog 13 #[x.val, p.val] w fun e w' => e = .returned (.tuple #[noCame, .int .i64 (errV (RW ds aw l p z) (nP p))]) ∧ Below w.heap.size w w' := by
  obtain ⟨W0, hW0, H0, B0⟩ := boxesR h p
  have HL := Lib.hid (hread_no H0 hp hno)
  have HW0 := Lib.hid hW0
  have HB0 := Lib.hid B0
  obtain ⟨er, her⟩ : ∃ er, errV (RW ds aw l p z) (nP p) = er := ⟨_, rfl⟩
  obtain ⟨d1, d2, d3⟩ := errV_ne (RW ds aw l p z) (nP p)
  rw [her] at HL d1 d2 d3 ⊢
  obtain ⟨_, ⟨x0, x1, x2, x3⟩, ⟨p0, p1, p2, p3, p4, p5, p6, p7, p8, p9, p10, p11, plt⟩, hc⟩ := H0.out
  have HC := Lib.hid hc
  have hlt : w.heap.size + 2 < W0.heap.size := World.block_lt_of_cell? W0 _ hc.c0
  clear h H0 hp hno her hW0 B0 hc plt d3
  unfold noCame
  simp only [Ptr.val, Ptr.cells] at HL HW0 ⊢
  unfold Px.val noCame at HL
  unfold Px.val
  go_enter Tryz.func13, Tryz.ntmps13
  go_wp2_with (first | (rw [HW0.out]; fail))
  rw [HW0.out]
  go_wp2_with fail
  refine HL.out.mono ?_
  rintro e w4 ⟨rfl, b4⟩
  have hbx := boxed w4 (.cells #[.string ⟨#[]⟩, .int .i64 0, .int .i64 0, .int .i64 0] 45)
  have hc4 : CameC (w.heap.size + 2) ⟨#[]⟩ 0 0 0 (w4.alloc (.cells #[.string ⟨#[]⟩, .int .i64 0, .int .i64 0, .int .i64 0] 45)) := (HC.out.of (b4.block _ hlt)).of (hbx.block _ (Nat.lt_of_lt_of_le hlt b4.size))
  have HC4 := Lib.hid hc4
  have HB4 := Lib.hid (next (next HB0.out b4) hbx)
  obtain ⟨c0, c1, c2, c3, f0, f1, f2, f3⟩ := hc4
  clear hbx
  clear x0 x1 x2 x3 p0 p1 p2 p3 p4 p5 p6 p7 p8 p9 p10 p11 b4 HL
  go_wp2
  have hc9 := HC4.out.put ⟨#[]⟩ 0 0 0
  obtain ⟨g0, g1, g2, g3, _, _, _, _⟩ := hc9
  unfold putC at g0 g1 g2 g3
  refine bodyPost_ret (v := .tuple #[.agg #[.string ⟨#[]⟩, .int .i64 0, .int .i64 0, .int .i64 0], .int .i64 er]) ?_ rfl ⟨rfl, ?_⟩
  · simp [results, Tryz.results13, go_sem, g0, g1, g2, g3]
  exact HB4.out.trans ((putC_turn (w4.alloc (.cells #[.string ⟨#[]⟩, .int .i64 0, .int .i64 0, .int .i64 0] 45)) (w.heap.size + 2) ⟨#[]⟩ 0 0 0).below (fun k hk => by omega) (by have := HB4.out.size; omega))

/-- The devices, and how many columns were taken, behind so many of Scrub's places. -/
def scS (l : List (Int × Int)) (aw : Nat → Bool) (p : Ptr) (z : Nat) (s : ByteArray) (ds : Nat → Dv) (i : Nat) : Nat → Nat → Dv
  | 0 => readS l aw p z s ds i
  | j + 1 => fixP l aw p z s (scS l aw p z s ds i j) j
def scN (l : List (Int × Int)) (aw : Nat → Bool) (p : Ptr) (z : Nat) (s : ByteArray) (ds : Nat → Dv) (i : Nat) : Nat → Nat
  | 0 => readN l aw p z s ds i
  | j + 1 => scN l aw p z s ds i j + unlP l aw p z s (scS l aw p z s ds i j) j
theorem readN_le {l : List (Int × Int)} {sc : Int} {p : Ptr} {z : Nat} (hp : PR l sc p z) (aw : Nat → Bool) (s : ByteArray) (ds : Nat → Dv) {i : Nat} (hi : i < nP p) : readN l aw p z s ds i ≤ 64 := by
  unfold readN
  have h0 := nP_pos p
  split
  · have := unlP_le hp aw s ds h0
    omega
  · have h1 := unlP_le hp aw s ds hi
    have h2 := unlP_le hp aw s (fixP l aw p z s ds i) h0
    omega
theorem scN_le {l : List (Int × Int)} {sc : Int} {p : Ptr} {z : Nat} (hp : PR l sc p z) (aw : Nat → Bool) (s : ByteArray) (ds : Nat → Dv) {i : Nat} (hi : i < nP p) : ∀ j, j ≤ nP p → scN l aw p z s ds i j ≤ 64 + 32 * j := by
  intro j
  induction j with
  | zero => intro _; exact readN_le hp aw s ds hi
  | succ j ih =>
    intro hj
    rw [scN]
    have h1 := ih (by omega)
    have h2 := unlP_le hp aw s (scS l aw p z s ds i j) (j := j) (by omega)
    omega
theorem PB.mono {x : Px} {l : List (Int × Int)} {b : Nat} {P Q : World → Prop} {W : World} (h : PB x l b P W) (k : ∀ W, P W → Q W) : PB x l b Q W := fun W' t => ⟨(h W' t).1, k W' (h W' t).2⟩
/-- What stands beside the devices in Scrub. -/
def SP (x : Px) (l : List (Int × Int)) (p : Ptr) (P : World → Prop) (b g : Nat) (W : World) : Prop := (PB x l (b + 2) P W ∧ BoxX x b W ∧ Box W (b + 1) p ∧ CameC (b + 2) ⟨#[]⟩ 0 0 0 W) ∧ PlA W g p
set_option maxHeartbeats 4000000 in
theorem hscrub_ok (h : St B w x l ds aw K P) (hp : PR l x.sc p z) {i : Nat} {d : Int} {s : ByteArray} (hf : lookTo p.q (TT l x.sc p z (RW ds aw l p z)) (nP p) = some (i, d, s)) (hK : K < 2000000000) :
    Calls Tryz.prog 13 #[x.val, p.val] w fun e w' => e = .returned (.tuple #[.agg #[.string s, .int .i64 (i : Int), .int .i64 d, .int .i64 (scN l aw p z s ds i (nP p) : Int)], .int .i64 0]) ∧ St B w' x l (scS l aw p z s ds i (nP p)) aw (K + 128) P ∧ Below B w w' := by
  obtain ⟨W0, hW0, H0, B0⟩ := boxesR h p
  have HL := Lib.hid (hread_ok H0 hp hf (by omega))
  obtain ⟨hin, hhit, _⟩ := lookTo_some hf
  have hss : s.size = z * 64 := (H0.calls hp).sz i hin (d, s) (hitQ_some hhit).1
  have HW0 := Lib.hid hW0
  have HB0 := Lib.hid (B0.mono h.lt.2)
  have HLT := Lib.hid (Nat.le_trans h.lt.2 B0.size)
  have HLW : Hid (B ≤ w.heap.size + 2) := Lib.hid (by have := h.lt.2; omega)
  have HPR := Lib.hid hp
  have HSS := Lib.hid hss
  have HIN := Lib.hid hin
  have HPL : Hid (∀ W, Calls Tryz.prog 19 #[p.val] W fun e w' => ∃ g, e = .returned (.slice (some ⟨g, 0, none⟩) (nP p) (nP p)) ∧ W.heap.size ≤ g ∧ PlA w' g p ∧ Below W.heap.size W w') := Lib.hid fun W => places_new p hp.ne W
  have hn2 := nP_le p
  have hwlt0 : w.heap.size + 2 < W0.heap.size := World.block_lt_of_cell? _ _ H0.out.2.2.2.c0
  obtain ⟨_, ⟨x0, x1, x2, x3⟩, ⟨p0, p1, p2, p3, p4, p5, p6, p7, p8, p9, p10, p11, plt⟩, _⟩ := H0.out
  have HT0 : Hid (scS l aw p z s ds i 0 = readS l aw p z s ds i ∧ scN l aw p z s ds i 0 = readN l aw p z s ds i) := Lib.hid ⟨rfl, rfl⟩
  rw [← HT0.out.1, ← HT0.out.2] at HL
  have HSL := Lib.hid (scN_le hp aw s ds hin)
  clear h H0 hp hf hW0 B0 plt hss hhit hin HT0
  simp only [Ptr.val, Ptr.cells] at HL HW0 HPL ⊢
  unfold Px.val at HL ⊢
  obtain ⟨n, hnn⟩ : ∃ n, nP p = n := ⟨_, rfl⟩
  rw [hnn] at HPL hn2 HSL ⊢
  have HNN := Lib.hid hnn
  clear hnn
  obtain ⟨N0, hN0⟩ : ∃ N, scN l aw p z s ds i 0 = N := ⟨_, rfl⟩
  rw [hN0] at HL
  have HN0 := Lib.hid hN0
  clear hN0
  go_enter Tryz.func13, Tryz.ntmps13
  go_wp2_with (first | (rw [HW0.out]; fail))
  rw [HW0.out]
  go_wp2_with fail
  refine HL.out.mono ?_
  rintro e w4 ⟨rfl, h4, b4⟩
  have hbx := boxed w4 (.cells #[.string s, .int .i64 (i : Int), .int .i64 d, .int .i64 (N0 : Int)] 45)
  have H5 := h4.mine hbx w4.heap.size (Nat.le_refl _) (CameC.new w4 s i d N0 w4.heap.size (Nat.le_refl _))
  have HB4 := Lib.hid (HB0.out.trans b4)
  have hwlt : w.heap.size + 2 < w4.heap.size := World.block_lt_of_cell? _ _ h4.out.2.2.2.c0
  have HL5 : Hid (B ≤ w4.heap.size) := Lib.hid h4.lt.2
  have HB5 := Lib.hid (HB4.out.trans (hbx.mono HL5.out))
  have HST5 := Lib.hid H5
  have hblt : w4.heap.size < (w4.alloc (.cells #[.string s, .int .i64 (i : Int), .int .i64 d, .int .i64 (N0 : Int)] 45)).heap.size := by simp
  clear x0 x1 x2 x3 p0 p1 p2 p3 p4 p5 p6 p7 p8 p9 p10 p11 b4 HL hbx H5 HB0 HLT h4 hwlt0
  obtain ⟨hpb, ⟨c0, c1, c2, c3, f0, f1, f2, f3⟩⟩ := HST5.out.out
  obtain ⟨_, ⟨x0, x1, x2, x3⟩, ⟨p0, p1, p2, p3, p4, p5, p6, p7, p8, p9, p10, p11, plt⟩, _⟩ := hpb.out
  clear hpb
  go_upto_region 4 with (fail)
  obtain ⟨w5, hw5⟩ : ∃ w5, w4.alloc (.cells #[.string s, .int .i64 (i : Int), .int .i64 d, .int .i64 (N0 : Int)] 45) = w5 := ⟨_, rfl⟩
  rw [hw5] at HB5 HST5 hblt c0 c1 c2 c3 f0 f1 f2 f3 x0 x1 x2 x3 p0 p1 p2 p3 p4 p5 p6 p7 p8 p9 p10 p11 plt ⊢
  clear hw5
  obtain ⟨b6, hb6⟩ : ∃ b6, w4.heap.size = b6 := ⟨_, rfl⟩
  rw [hb6] at HST5 HL5 hblt hwlt c0 c1 c2 c3 f0 f1 f2 f3 ⊢
  clear hb6
  go_wp2_with fail
  refine (HPL.out _).mono ?_
  rintro e w6 ⟨gp, rfl, hgp, hPA, b6b⟩
  have hgne : gp ≠ b6 := by omega
  have HST6 := Lib.hid (show St B w6 x l (scS l aw p z s ds i 0) aw (K + 64) (fun W => PB x l b6 (SP x l p P w.heap.size gp) W ∧ CameC b6 s (i : Int) d (scN l aw p z s ds i 0 : Int) W) from by
    rw [HN0.out]
    exact (HST5.out.add b6b (hPA.new hgp)).mono fun W h => ⟨h.1.1.with_ fun W' t => h.2.turn t hgne, h.1.2⟩)
  have HB6 := Lib.hid (HB5.out.trans (b6b.mono HST5.out.lt_))
  clear x0 x1 x2 x3 p0 p1 p2 p3 p4 p5 p6 p7 p8 p9 p10 p11 plt c0 c1 c2 c3 f0 f1 f2 f3 HPL hPA b6b HST5 HB5
  go_wp2_with fail
  go_loopw [23] (fun iv wr => ∃ j : Nat, j ≤ n ∧ iv = .int .i64 j ∧ St B wr x l (scS l aw p z s ds i j) aw (K + 64 + 32 * j) (fun W => PB x l b6 (SP x l p P w.heap.size gp) W ∧ CameC b6 s (i : Int) d (scN l aw p z s ds i j : Int) W) ∧ Below B w wr) (fun iv _ => n - (intOf iv).toNat)
  case atStart => exact ⟨0, Nat.zero_le _, rfl, HST6.out, HB6.out⟩
  case round =>
    obtain ⟨j, hj, rfl, hst, hbw⟩ := hrel
    rename World => wr
    have HS := Lib.hid hst
    have HBW := Lib.hid hbw
    clear hst hbw
    by_cases hlt : j < n
    · have hjn : j < nP p := by rw [HNN.out]; exact hlt
      obtain ⟨ka, hka⟩ : ∃ ka, (atP p j).1 = ka := ⟨_, rfl⟩
      obtain ⟨ta, hta⟩ : ∃ ta, (atP p j).2 = ta := ⟨_, rfl⟩
      obtain ⟨z0, z1⟩ := HS.out.out.1.out.2.2 j hjn
      rw [hka] at z0
      rw [hta] at z1
      have q1 : (j : Int) < (n : Int) := by omega
      have q2 : (0 : Int) ≤ (j : Int) := by omega
      have hbx := boxed wr (.cells #[.int .i64 ka, .int .i64 ta] 26)
      have hwr6 : b6 < wr.heap.size := World.block_lt_of_cell? _ _ HS.out.out.2.c0
      have hplb : PlBox wr.heap.size ka ta (wr.alloc (.cells #[.int .i64 ka, .int .i64 ta] 26)) := ⟨by simp, by simp, by simp⟩
      have H7 : St B (wr.alloc (.cells #[.int .i64 ka, .int .i64 ta] 26)) x l (scS l aw p z s ds i j) aw (K + 64 + 32 * j) (fun W => PB x l b6 (fun W => SP x l p P w.heap.size gp W ∧ PlBox wr.heap.size ka ta W) W ∧ CameC b6 s (i : Int) d (scN l aw p z s ds i j : Int) W) :=
        (HS.out.add hbx (hplb.new (Nat.le_refl _))).mono fun W h => ⟨h.1.1.with_ fun W' t => h.2.turn t (by omega), h.1.2⟩
      have hm := mendP_ok (H7.below (Below.refl _ _).drew) HPR.out hjn s HSS.out (by omega)
      rw [hka, hta] at hm
      have hu := unlP_le HPR.out aw s (scS l aw p z s ds i j) hjn
      have hT := HSL.out j (by omega)
      have HT1 : Hid (scN l aw p z s ds i (j + 1) = scN l aw p z s ds i j + unlP l aw p z s (scS l aw p z s ds i j) j ∧ scS l aw p z s ds i (j + 1) = fixP l aw p z s (scS l aw p z s ds i j) j) := Lib.hid ⟨rfl, rfl⟩
      obtain ⟨T, hTT⟩ : ∃ T, scN l aw p z s ds i j = T := ⟨_, rfl⟩
      obtain ⟨U, hUU⟩ : ∃ U, unlP l aw p z s (scS l aw p z s ds i j) j = U := ⟨_, rfl⟩
      rw [hTT] at H7 hm hT HT1
      rw [hUU] at hm hu HT1
      have hNs : IntKind.i64.wrap ((T : Int) + (U : Int)) = ((T + U : Nat) : Int) := by rw [IntKind.wrap_i64]; omega
      obtain ⟨NN, hNN⟩ : ∃ NN : Nat, T + U = NN := ⟨_, rfl⟩
      rw [hNN] at hNs HT1
      have H7' := Lib.hid H7
      have HM := Lib.hid hm
      have HB7 := Lib.hid (HBW.out.trans (hbx.mono HS.out.lt_))
      clear H7 hm hTT hUU hNN hka hta hplb hbx hjn HBW
      obtain ⟨hpb, ⟨c0, c1, c2, c3, f0, f1, f2, f3⟩⟩ := H7'.out.out
      obtain ⟨⟨⟨_, ⟨x0, x1, x2, x3⟩, _, _⟩, _⟩, ⟨k0, k1, _⟩⟩ := hpb.out
      clear hpb
      unfold Px.val at HM
      go_upto_region 7 with (fail)
      obtain ⟨w7, hw7⟩ : ∃ w7, wr.alloc (.cells #[.int .i64 ka, .int .i64 ta] 26) = w7 := ⟨_, rfl⟩
      rw [hw7] at HM H7' HB7 c0 c1 c2 c3 f0 f1 f2 f3 x0 x1 x2 x3 k0 k1 ⊢
      clear hw7 z0 z1
      obtain ⟨b9, hb9⟩ : ∃ b9, wr.heap.size = b9 := ⟨_, rfl⟩
      rw [hb9] at HM H7' k0 k1 ⊢
      clear hb9
      refine wp_region_S 9 (fun W => W.cell? ⟨w.heap.size, 0, none⟩ = some (.slice x.ga x.gn x.gc) ∧ W.cell? ⟨w.heap.size, 1, none⟩ = some (.int .i64 x.sc) ∧ W.cell? ⟨w.heap.size, 2, none⟩ = some (.slice (some ⟨x.lb, 0, none⟩) x.n x.n) ∧ W.cell? ⟨w.heap.size, 3, none⟩ = some (.slice (some ⟨x.ab, 0, none⟩) x.n x.n) ∧ W.cell? ⟨b9, 0, none⟩ = some (.int .i64 ka) ∧ W.cell? ⟨b9, 1, none⟩ = some (.int .i64 ta) ∧ W.cell? ⟨b6, 0, none⟩ = some (.string s) ∧ W.cell? ⟨b6, 3, none⟩ = some (.int .i64 (T : Int))) (by kernel_rfl) ?_
      have hS : w7.drew.cell? ⟨w.heap.size, 0, none⟩ = some (.slice x.ga x.gn x.gc) ∧ w7.drew.cell? ⟨w.heap.size, 1, none⟩ = some (.int .i64 x.sc) ∧ w7.drew.cell? ⟨w.heap.size, 2, none⟩ = some (.slice (some ⟨x.lb, 0, none⟩) x.n x.n) ∧ w7.drew.cell? ⟨w.heap.size, 3, none⟩ = some (.slice (some ⟨x.ab, 0, none⟩) x.n x.n) ∧ w7.drew.cell? ⟨b9, 0, none⟩ = some (.int .i64 ka) ∧ w7.drew.cell? ⟨b9, 1, none⟩ = some (.int .i64 ta) ∧ w7.drew.cell? ⟨b6, 0, none⟩ = some (.string s) ∧ w7.drew.cell? ⟨b6, 3, none⟩ = some (.int .i64 (T : Int)) := ⟨x0, x1, x2, x3, k0, k1, c0, c3⟩
      refine wpAnyS_take (i := 0) (.pointer (some ⟨b6, 3, none⟩)) rfl (by kernel_rfl) (by kernel_rfl) (by kernel_rfl) (by kernel_rfl) (fun _ _ _ h => h) (Or.inl ⟨by rfl, fun w' hw' => ?_⟩) hS ?_
      · (obtain ⟨s0, s1, s2, s3, s4, s5, s6, s7⟩ := hw'; go_simp)
      (try go_frame)
      refine wpAnyS_take (i := 1) (.int .i64 (T : Int)) rfl (by kernel_rfl) (by kernel_rfl) (by kernel_rfl) (by kernel_rfl) (fun _ _ _ h => h) (Or.inl ⟨by rfl, fun w' hw' => ?_⟩) hS ?_
      · (obtain ⟨s0, s1, s2, s3, s4, s5, s6, s7⟩ := hw'; go_simp)
      (try go_frame)
      refine wpAnyS_take (i := 2) (.agg #[.slice x.ga x.gn x.gc, .int .i64 x.sc, .slice (some ⟨x.lb, 0, none⟩) x.n x.n, .slice (some ⟨x.ab, 0, none⟩) x.n x.n]) rfl (by kernel_rfl) (by kernel_rfl) (by kernel_rfl) (by kernel_rfl) (fun _ _ _ h => h) (Or.inl ⟨by rfl, fun w' hw' => ?_⟩) hS ?_
      · (obtain ⟨s0, s1, s2, s3, s4, s5, s6, s7⟩ := hw'; go_simp)
      (try go_frame)
      refine wpAnyS_take (i := 3) (.agg #[.int .i64 ka, .int .i64 ta]) rfl (by kernel_rfl) (by kernel_rfl) (by kernel_rfl) (by kernel_rfl) (fun _ _ _ h => h) (Or.inl ⟨by rfl, fun w' hw' => ?_⟩) hS ?_
      · (obtain ⟨s0, s1, s2, s3, s4, s5, s6, s7⟩ := hw'; go_simp)
      (try go_frame)
      refine wpAnyS_take (i := 4) (.pointer (some ⟨b6, 0, none⟩)) rfl (by kernel_rfl) (by kernel_rfl) (by kernel_rfl) (by kernel_rfl) (fun _ _ _ h => h) (Or.inl ⟨by rfl, fun w' hw' => ?_⟩) hS ?_
      · (obtain ⟨s0, s1, s2, s3, s4, s5, s6, s7⟩ := hw'; go_simp)
      (try go_frame)
      refine wpAnyS_take (i := 5) (.string s) rfl (by kernel_rfl) (by kernel_rfl) (by kernel_rfl) (by kernel_rfl) (fun _ _ _ h => h) (Or.inl ⟨by rfl, fun w' hw' => ?_⟩) hS ?_
      · (obtain ⟨s0, s1, s2, s3, s4, s5, s6, s7⟩ := hw'; go_simp)
      (try go_frame)
      refine wpAnyS_step (i := 6) (by kernel_rfl) rfl rfl fun K hK => ?_
      go_simp
      refine HM.out.mono ?_
      rintro e w12 ⟨rfl, h12, b12⟩
      have HB12 := Lib.hid ((HB7.out.trans ((Below.refl _ w7).drew.mono H7'.out.lt_)).trans b12)
      have hw13 := StX.write h12 (fun W h => h.c3) ((Turn.refl (fun k => k = b6) w12).setCell (p := ⟨b6, 3, none⟩) (.inl rfl) (.int .i64 (NN : Int))) (fun W e => (h12.out.2.set3 (NN : Int)).of e)
      have H13 := Lib.hid hw13.1
      have HB13 := Lib.hid (HB12.out.setCell (p := ⟨b6, 3, none⟩) hw13.2 (.int .i64 (NN : Int)))
      obtain ⟨hpb2, ⟨e0, e1, e2, e3, g0, g1, g2, g3⟩⟩ := h12.out
      obtain ⟨⟨⟨_, ⟨y0, y1, y2, y3⟩, _, _⟩, _⟩, ⟨t0, t1, _⟩⟩ := hpb2.out
      refine hK _ _ (fun _ => ⟨y0, y1, y2, y3, t0, t1, e0, e3⟩) ?_
      have hS : w12.cell? ⟨w.heap.size, 0, none⟩ = some (.slice x.ga x.gn x.gc) ∧ w12.cell? ⟨w.heap.size, 1, none⟩ = some (.int .i64 x.sc) ∧ w12.cell? ⟨w.heap.size, 2, none⟩ = some (.slice (some ⟨x.lb, 0, none⟩) x.n x.n) ∧ w12.cell? ⟨w.heap.size, 3, none⟩ = some (.slice (some ⟨x.ab, 0, none⟩) x.n x.n) ∧ w12.cell? ⟨b9, 0, none⟩ = some (.int .i64 ka) ∧ w12.cell? ⟨b9, 1, none⟩ = some (.int .i64 ta) ∧ w12.cell? ⟨b6, 0, none⟩ = some (.string s) ∧ w12.cell? ⟨b6, 3, none⟩ = some (.int .i64 (T : Int)) := ⟨y0, y1, y2, y3, t0, t1, e0, e3⟩
      clear hK hpb2 h12 hw13 b12 HM x0 x1 x2 x3 c0 c1 c2 c3 f0 f1 f2 f3 k0 k1
      (try go_frame)
      refine wpAnyS_take (i := 7) (.int .i64 (NN : Int)) rfl (by kernel_rfl) (by kernel_rfl) (by kernel_rfl) (by kernel_rfl) (fun _ _ _ h => h) (Or.inl ⟨by rfl, fun w' hw' => ?_⟩) hS ?_
      · (obtain ⟨s0, s1, s2, s3, s4, s5, s6, s7⟩ := hw'; go_simp)
      (try go_frame)
      refine wpAnyS_take (i := 8) (.pointer (some ⟨b6, 3, none⟩)) rfl (by kernel_rfl) (by kernel_rfl) (by kernel_rfl) (by kernel_rfl) (fun _ _ _ h => h) (Or.inl ⟨by rfl, fun w' hw' => ?_⟩) hS ?_
      · (obtain ⟨s0, s1, s2, s3, s4, s5, s6, s7⟩ := hw'; go_simp)
      (try go_frame)
      refine wpAnyS_step (i := 9) (by kernel_rfl) rfl rfl fun K hK => ?_
      go_simp
      refine hK _ _ (fun h => absurd rfl h) ?_
      clear hK hS
      refine wpAnyS_done (by kernel_rfl) ?_ _
      clear e0 e1 e2 e3 g0 g1 g2 g3 y0 y1 y2 y3 t0 t1
      go_wp2
      go_roundw
      case rel =>
        refine ⟨j + 1, by omega, by go_num, ?_, HB13.out⟩
        rw [HT1.out.1, HT1.out.2]
        exact (H13.out.mono fun W h => ⟨h.1.mono fun W h => h.1, h.2⟩).more (by omega)
      case measure => simp [intOf]; omega
    · obtain rfl : j = n := by omega
      have HF := Lib.hid (StX.write (HS.out.mono fun W h => ⟨h.1.out.1.1, h.1.out.1.2⟩) (fun W (h : BoxX x w.heap.size W ∧ Box W (w.heap.size + 1) p ∧ CameC (w.heap.size + 2) ⟨#[]⟩ 0 0 0 W) => h.2.2.c0) (putC_turn wr (w.heap.size + 2) s i d (scN l aw p z s ds i j : Int)) (Q' := fun _ => True) (fun _ _ => trivial))
      have HCF := Lib.hid (HS.out.out.1.out.1.2.2.2.put s i d (scN l aw p z s ds i j : Int))
      obtain ⟨hpb, ⟨c0, c1, c2, c3, f0, f1, f2, f3⟩⟩ := HS.out.out
      obtain ⟨⟨_, _, _, ⟨r0, r1, r2, r3, s0, s1, s2, s3⟩⟩, _⟩ := hpb.out
      clear hpb
      obtain ⟨g0, g1, g2, g3, _, _, _, _⟩ := HCF.out
      unfold putC at g0 g1 g2 g3
      go_wp2
      refine bodyPost_ret (v := .tuple #[.agg #[.string s, .int .i64 (i : Int), .int .i64 d, .int .i64 (scN l aw p z s ds i j : Int)], .int .i64 0]) ?_ rfl ⟨rfl, ?_, ?_⟩
      · simp [results, Tryz.results13, go_sem, g0, g1, g2, g3]
      · exact (HF.out.1.mono fun W h => h.1.out).more (by omega)
      · exact HBW.out.trans ((putC_turn _ (w.heap.size + 2) s i d _).below (fun k hk => by have := HLW.out; omega) HS.out.lt_)
end
end Go.Proofs.YtiffkbmcikiioaaGreat
