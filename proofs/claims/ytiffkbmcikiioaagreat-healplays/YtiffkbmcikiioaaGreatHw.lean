/-
  heal.Whole.
-/
import Derived.Test.YtiffkbmcikiioaaGreatY46
namespace Go.Proofs.YtiffkbmcikiioaaGreat
set_option maxRecDepth 100000
open Go.RowKit Go.Shelf Go.Maps M

/-- Is nothing to be mended at a place? At none of the first places? -/
def fineAt (l : List (Int × Int)) (ds : Nat → Dv) (aw : Nat → Bool) (p : Ptr) (z : Nat) (s : ByteArray) (j : Nat) : Bool := (badL (EE l p z s j) (RW ds aw l p z j) (LL l p z j).length).isEmpty
def fineAll (l : List (Int × Int)) (ds : Nat → Dv) (aw : Nat → Bool) (p : Ptr) (z : Nat) (s : ByteArray) (n : Nat) : Bool := (List.range n).all (fineAt l ds aw p z s)
theorem fineAll_iff {l : List (Int × Int)} {ds : Nat → Dv} {aw : Nat → Bool} {p : Ptr} {z : Nat} {s : ByteArray} {n : Nat} : fineAll l ds aw p z s n = true ↔ ∀ j, j < n → fineAt l ds aw p z s j = true := by
  unfold fineAll
  rw [List.all_eq_true]
  exact ⟨fun h j hj => h j (List.mem_range.2 hj), fun h j hj => h j (List.mem_range.1 hj)⟩
theorem fineAll_not {l : List (Int × Int)} {ds : Nat → Dv} {aw : Nat → Bool} {p : Ptr} {z : Nat} {s : ByteArray} {n j : Nat} (hj : j < n) (h : fineAt l ds aw p z s j = false) : fineAll l ds aw p z s n = false := by
  cases e : fineAll l ds aw p z s n with
  | false => rfl
  | true => rw [fineAll_iff.1 e j hj] at h; cases h
section
variable {B : Nat} {w : World} {x : Px} {l : List (Int × Int)} {ds : Nat → Dv} {aw : Nat → Bool} {K : Nat} {P : World → Prop} {p : Ptr} {z : Nat}
set_option maxHeartbeats 1000000 in
theorem whole1_ok {b c : Nat} {s : ByteArray} {i d n : Int} (h : St B w x l ds aw K (fun W => P W ∧ BoxX x b W ∧ CameC c s i d n W)) (hp : PR l x.sc p z) {j : Nat} (hj : j < nP p) (hs : s.size = z * 64) (a : Bool) (ha : fineAt l ds aw p z s j = a) :
    Calls Tryz.prog 42 #[.agg #[.int .i64 (atP p j).1, .int .i64 (atP p j).2], .pointer (some ⟨b, 0, none⟩), .pointer (some ⟨c, 0, none⟩)] w fun e w' =>
      e = .returned (.bool (!a)) ∧ Below w.heap.size w w' := by
  obtain ⟨e, hb⟩ := hp.blk j hj
  have b2 := boxed w (.cells #[.int .i64 (kN p j : Int), .int .i64 (tN p j : Int)] 26)
  have H2 := h.add b2 (BoxP.new w (kN p j : Int) (tN p j : Int) _ (Nat.le_refl _) 26)
  obtain ⟨w2, e2⟩ : ∃ w2, w.alloc (.cells #[.int .i64 (kN p j : Int), .int .i64 (tN p j : Int)] 26) = w2 := ⟨_, rfl⟩
  rw [e2] at b2 H2
  have HE2 := Lib.hid e2
  have HB2 := Lib.hid b2
  have HB := Lib.hid (hbad_ok H2 _ _ z hb s hs)
  rw [e]
  obtain ⟨⟨_, ⟨x0, x1, x2, x3⟩, c0, _, _, _, _⟩, y0, y1⟩ := H2.out
  have v0 := x0
  have v1 := x1
  have v2 := x2
  have v3 := x3
  have u0 := c0
  rw [← e2] at v0 v1 v2 v3 u0
  unfold fineAt EE RW LL at ha
  generalize badL (encOf l (kN p j) (tN p j) z s) (rawL ds aw (colsOf l (kN p j) (tN p j) z)) (colsOf l (kN p j) (tN p j) z).length = bl at HB ha
  have HA := Lib.hid ha
  generalize (kN p j : Int) = k at *
  generalize (tN p j : Int) = t at *
  unfold Px.val at HB
  clear h hp hb hs hj e ha H2 b2 e2
  go_enter Tryz.func42, Tryz.ntmps42
  go_wp2_with (first | (rw [HE2.out]; fail))
  rw [HE2.out]
  clear v0 v1 v2 v3 u0
  go_wp2_with fail
  refine HB.out.mono ?_
  rintro e w7 ⟨v7, rfl, hO, b1⟩
  obtain ⟨a', n', c', rfl, hl, _⟩ := hO.v
  have HL := Lib.hid hl
  have HB7 := Lib.hid (next HB2.out b1)
  clear hO hl b1
  go_wp2
  go_ret
  refine ⟨?_, HB7.out⟩
  have h1 := HA.out
  have h2 := HL.out
  cases bl with
  | nil => subst h2; subst h1; rfl
  | cons y ys => subst h2; subst h1; simp

set_option maxHeartbeats 1000000 in
theorem windex_ok {b c : Nat} {s : ByteArray} {i d n : Int} (h : St B w x l ds aw K (fun W => P W ∧ BoxX x b W ∧ CameC c s i d n W)) (hp : PR l x.sc p z) (hs : s.size = z * 64) (g : Nat) (hA : PlA w g p) :
    Calls Tryz.prog 74 #[.slice (some ⟨g, 0, none⟩) (nP p) (nP p), .func (.func 42) #[] #[.pointer (some ⟨b, 0, none⟩), .pointer (some ⟨c, 0, none⟩)]] w fun e w' =>
      ∃ k : Int, e = .returned (.int .i64 k) ∧ (fineAll l ds aw p z s (nP p) = true → k = -1) ∧ (fineAll l ds aw p z s (nP p) = false → 0 ≤ k) ∧ Below w.heap.size w w' := by
  have hn2 := nP_le p
  have HF : Hid (∀ (k : Nat) (W : World), k < nP p → Below w.heap.size w W → ∀ a, fineAt l ds aw p z s k = a → Calls Tryz.prog 42 #[.agg #[.int .i64 (atP p k).1, .int .i64 (atP p k).2], .pointer (some ⟨b, 0, none⟩), .pointer (some ⟨c, 0, none⟩)] W fun e w' => e = .returned (.bool (!a)) ∧ Below W.heap.size W w') := Lib.hid fun k W hk bW a ha => whole1_ok (h.below bW) hp hk hs a ha
  have HA := Lib.hid hA
  have hglt := hA.1
  generalize hN : nP p = N at hn2 HF ⊢
  have HN := Lib.hid hN
  clear hN h hp hs hA
  go_enter Tryz.func74, Tryz.ntmps74
  go_wp2_with fail
  go_loopw [8] (fun i wr => ∃ k : Nat, k ≤ N ∧ i = .int .i64 k ∧ Hid (∀ j, j < k → fineAt l ds aw p z s j = true) ∧ Hid (Below w.heap.size w wr)) (fun i _ => N - (intOf i).toNat)
  case atStart => exact ⟨0, Nat.zero_le _, rfl, Lib.hid fun j hj => absurd hj (Nat.not_lt_zero _), Lib.hid (Below.refl _ _)⟩
  case round =>
    obtain ⟨k, hk, rfl, HT, HW⟩ := hrel
    by_cases hlt : k < N
    · obtain ⟨c0, c1⟩ := (HA.out.next HW.out).2 k (by rw [HN.out]; exact hlt)
      obtain ⟨a, ha⟩ : ∃ a, fineAt l ds aw p z s k = a := ⟨_, rfl⟩
      have HC := Lib.hid (HF.out k wr hlt HW.out a ha)
      have HK := Lib.hid ha
      clear ha
      generalize (atP p k).1 = y0 at *
      generalize (atP p k).2 = y1 at *
      go_wp2_with fail
      refine HC.out.mono ?_
      rintro e w1 ⟨rfl, b1⟩
      cases a with
      | true =>
        simp only [Bool.not_true]
        go_wp2
        go_roundw
        case rel => exact ⟨k + 1, by omega, by go_num, Lib.hid fun j hj => by
          rcases Nat.lt_succ_iff_lt_or_eq.1 hj with h | rfl
          · exact HT.out j h
          · exact HK.out, Lib.hid (next HW.out b1)⟩
        case measure => simp [intOf]; omega
      | false =>
        simp only [Bool.not_false]
        go_wp2
        go_ret
        exact ⟨_, rfl, (fun h => absurd h (by rw [fineAll_not hlt HK.out]; exact Bool.false_ne_true)), (fun _ => by omega), next HW.out b1⟩
    · obtain rfl : k = N := by omega
      go_wp2
      go_ret
      exact ⟨_, rfl, (fun _ => rfl), (fun h => absurd (fineAll_iff.2 HT.out) (by rw [h]; exact Bool.false_ne_true)), HW.out⟩
theorem wcontains_ok {b c : Nat} {s : ByteArray} {i d n : Int} (h : St B w x l ds aw K (fun W => P W ∧ BoxX x b W ∧ CameC c s i d n W)) (hp : PR l x.sc p z) (hs : s.size = z * 64) (g : Nat) (hA : PlA w g p) (a : Bool) (ha : fineAll l ds aw p z s (nP p) = a) :
    Calls Tryz.prog 41 #[.slice (some ⟨g, 0, none⟩) (nP p) (nP p), .func (.func 42) #[] #[.pointer (some ⟨b, 0, none⟩), .pointer (some ⟨c, 0, none⟩)]] w fun e w' =>
      e = .returned (.bool (!a)) ∧ Below w.heap.size w w' := by
  have HI := Lib.hid (windex_ok h hp hs g hA)
  rw [ha] at HI
  clear h hp hs hA ha
  go_enter Tryz.func41, Tryz.ntmps41
  go_wp2_with fail
  refine HI.out.mono ?_
  rintro e w1 ⟨k, rfl, h1, h2, b1⟩
  cases a with
  | true =>
    obtain rfl := h1 rfl
    clear h1 h2
    go_wp2
    go_ret
    exact ⟨rfl, b1⟩
  | false =>
    have h3 : decide (k ≥ 0) = true := decide_eq_true (h2 rfl)
    clear h1 h2
    go_wp2
    go_ret
    exact ⟨by simp, b1⟩
/-- The boxes of Whole. -/
theorem boxesW (h : St B w x l ds aw K P) (p : Ptr) :
    ∃ W0, (w.alloc (.cells #[.slice x.ga x.gn x.gc, .int .i64 x.sc, .slice (some ⟨x.lb, 0, none⟩) x.n x.n, .slice (some ⟨x.ab, 0, none⟩) x.n x.n] 37)).alloc (.cells p.cells 31) = W0 ∧
      St B W0 x l ds aw K (fun W => P W ∧ BoxX x w.heap.size W ∧ Box W (w.heap.size + 1) p) ∧ Below w.heap.size w W0 := by
  have b1 := boxed w (.cells #[.slice x.ga x.gn x.gc, .int .i64 x.sc, .slice (some ⟨x.lb, 0, none⟩) x.n x.n, .slice (some ⟨x.ab, 0, none⟩) x.n x.n] 37)
  have h1 := BoxX.new w x w.heap.size (Nat.le_refl _) 37
  have s1 : (w.alloc (.cells #[.slice x.ga x.gn x.gc, .int .i64 x.sc, .slice (some ⟨x.lb, 0, none⟩) x.n x.n, .slice (some ⟨x.ab, 0, none⟩) x.n x.n] 37)).heap.size = w.heap.size + 1 := World.size_alloc _ _
  obtain ⟨w1, hw1⟩ : ∃ w1, w.alloc (.cells #[.slice x.ga x.gn x.gc, .int .i64 x.sc, .slice (some ⟨x.lb, 0, none⟩) x.n x.n, .slice (some ⟨x.ab, 0, none⟩) x.n x.n] 37) = w1 := ⟨_, rfl⟩
  rw [hw1] at b1 h1 s1 ⊢
  have b2 := boxed w1 (.cells p.cells 31)
  have h2 := BoxPt.new w1 p w.heap.size (by omega)
  rw [s1] at h2
  have b12 := next b1 b2
  exact ⟨_, rfl, (h.add b12 ((h1.next b2).and h2)), b12⟩
set_option maxHeartbeats 2000000 in
theorem whole_no (h : St B w x l ds aw K P) (hp : PR l x.sc p z) (hno : lookTo p.q (TT l x.sc p z (RW ds aw l p z)) (nP p) = none) :
    Calls Tryz.prog 18 #[x.val, p.val] w fun e w' => e = .returned (.bool false) ∧ Below w.heap.size w w' := by
  obtain ⟨W0, hW0, H0, B0⟩ := boxesW h p
  have HL := Lib.hid (look_ok H0 hp)
  rw [lookV_none hno] at HL
  have HW0 := Lib.hid hW0
  have HB0 := Lib.hid B0
  obtain ⟨er, her⟩ : ∃ er, errV (RW ds aw l p z) (nP p) = er := ⟨_, rfl⟩
  obtain ⟨d1, d2, d3⟩ := errV_ne (RW ds aw l p z) (nP p)
  rw [her] at HL d1 d2 d3
  obtain ⟨_, ⟨x0, x1, x2, x3⟩, p0, p1, p2, p3, p4, p5, p6, p7, p8, p9, p10, p11, plt⟩ := H0.out
  clear h H0 hp hno her hW0 B0 d3
  simp only [Ptr.val, Ptr.cells] at HL HW0 ⊢
  unfold Px.val noCame at HL
  unfold Px.val
  go_enter Tryz.func18, Tryz.ntmps18
  go_wp2_with (first | (rw [HW0.out]; fail))
  rw [HW0.out]
  go_wp2_with fail
  refine HL.out.mono ?_
  rintro e w4 ⟨rfl, b4⟩
  have HB4 := Lib.hid (next HB0.out b4)
  clear x0 x1 x2 x3 p0 p1 p2 p3 p4 p5 p6 p7 p8 p9 p10 p11 plt HL
  go_wp2
  go_ret
  exact ⟨rfl, next HB4.out (boxed _ _)⟩
set_option maxHeartbeats 2000000 in
theorem whole_ok (h : St B w x l ds aw K P) (hp : PR l x.sc p z) {i : Nat} {d : Int} {s : ByteArray} (hf : lookTo p.q (TT l x.sc p z (RW ds aw l p z)) (nP p) = some (i, d, s)) (a : Bool) (ha : fineAll l ds aw p z s (nP p) = a) :
    Calls Tryz.prog 18 #[x.val, p.val] w fun e w' => e = .returned (.bool a) ∧ Below w.heap.size w w' := by
  obtain ⟨W0, hW0, H0, B0⟩ := boxesW h p
  have HL := Lib.hid (look_ok H0 hp)
  rw [lookV_some hf] at HL
  obtain ⟨hin, hhit, _⟩ := lookTo_some hf
  have hss : s.size = z * 64 := (H0.calls hp).sz i hin (d, s) (hitQ_some hhit).1
  have HW0 := Lib.hid hW0
  have HB0 := Lib.hid B0
  have HPL : Hid (∀ W, Calls Tryz.prog 19 #[p.val] W fun e w' => ∃ g, e = .returned (.slice (some ⟨g, 0, none⟩) (nP p) (nP p)) ∧ PlA w' g p ∧ Below W.heap.size W w') := Lib.hid fun W => places_pr p hp.ne W
  have HWC : Hid (∀ (w4 w6 : World) (g : Nat), Below W0.heap.size W0 w4 → Below (w4.heap.size + 1) (w4.alloc (.cells #[.string s, .int .i64 (i : Int), .int .i64 d, .int .i64 0] 45)) w6 → PlA w6 g p →
      Calls Tryz.prog 41 #[.slice (some ⟨g, 0, none⟩) (nP p) (nP p), .func (.func 42) #[] #[.pointer (some ⟨w.heap.size, 0, none⟩), .pointer (some ⟨w4.heap.size, 0, none⟩)]] w6 fun e w' =>
      e = .returned (.bool (!a)) ∧ Below w6.heap.size w6 w') := Lib.hid fun w4 w6 g b4 b6 hA => by
    have h5 := (H0.below b4).add (boxed w4 (.cells #[.string s, .int .i64 (i : Int), .int .i64 d, .int .i64 0] 45)) (CameC.new w4 s i d 0 _ (Nat.le_refl _))
    have h5' : St B (w4.alloc (.cells #[.string s, .int .i64 (i : Int), .int .i64 d, .int .i64 0] 45)) x l ds aw K (fun W => (P W ∧ Box W (w.heap.size + 1) p) ∧ BoxX x w.heap.size W ∧ CameC w4.heap.size s i d 0 W) := h5.mono fun W k => ⟨⟨k.1.1, k.1.2.2⟩, k.1.2.1, k.2⟩
    exact wcontains_ok (h5'.below (by rw [World.size_alloc]; exact b6)) hp hss g hA a ha
  have hn2 := nP_le p
  have hi4 : I64 (i : Int) := ⟨by omega, by omega⟩
  obtain ⟨_, ⟨x0, x1, x2, x3⟩, p0, p1, p2, p3, p4, p5, p6, p7, p8, p9, p10, p11, plt⟩ := H0.out
  have v0 := fun (w4 : World) (b4 : Below W0.heap.size W0 w4) => ((H0.below b4).out).2.2
  have HV := Lib.hid v0
  clear v0 h H0 hp hf hin hhit hss hW0 B0 ha
  generalize nP p = m at *
  simp only [Ptr.val, Ptr.cells] at HL HW0 HPL ⊢
  unfold Px.val at HL
  unfold Px.val
  go_enter Tryz.func18, Tryz.ntmps18
  go_wp2_with (first | (rw [HW0.out]; fail))
  rw [HW0.out]
  go_wp2_with fail
  refine HL.out.mono ?_
  rintro e w4 ⟨rfl, b4⟩
  have HB4 := Lib.hid (next HB0.out b4)
  have HWC4 := Lib.hid (fun w6 g => HWC.out w4 w6 g b4)
  obtain ⟨q0, q1, q2, q3, q4, q5, q6, q7, q8, q9, q10, q11, qlt⟩ := HV.out w4 b4
  clear x0 x1 x2 x3 p0 p1 p2 p3 p4 p5 p6 p7 p8 p9 p10 p11 plt HL HWC HV b4
  go_wp2_with fail
  refine (HPL.out _).mono ?_
  rintro e w6 ⟨g, rfl, hA, b6⟩
  have HB6 := Lib.hid (next (next HB4.out (boxed w4 _)) b6)
  rw [World.size_alloc] at b6
  have HC := Lib.hid (HWC4.out w6 g b6 hA)
  clear q0 q1 q2 q3 q4 q5 q6 q7 q8 q9 q10 q11 HWC4 HPL hA b6
  go_wp2_with fail
  refine HC.out.mono ?_
  rintro e w7 ⟨rfl, b7⟩
  go_wp2
  go_ret
  exact ⟨by simp, next HB6.out b7⟩
end
end Go.Proofs.YtiffkbmcikiioaaGreat
