/-
  The document's Flushed.
-/
import Derived.Test.YtmkheikllbjcbaaEd
namespace Go.Proofs.Ytmkheikllbjcbaa
open Go.RowKit Go.Maps

/-- The four cells of a device of the document's, by value, in block xb. -/
structure Box (w : World) (xb : Nat) (v0 v1 v2 v3 : Value) : Prop where
  c0 : w.cell? ⟨xb, 0, none⟩ = some v0
  c1 : w.cell? ⟨xb, 1, none⟩ = some v1
  c2 : w.cell? ⟨xb, 2, none⟩ = some v2
  c3 : w.cell? ⟨xb, 3, none⟩ = some v3
theorem Box.below {w w' : World} {B xb : Nat} {v0 v1 v2 v3 : Value} (h : Box w xb v0 v1 v2 v3) (hb : Below B w w') (hx : xb < B) : Box w' xb v0 v1 v2 v3 := by
  have e : ∀ j, w'.cell? ⟨xb, j, none⟩ = w.cell? ⟨xb, j, none⟩ := fun j => hb.cell (p := ⟨xb, j, none⟩) hx
  exact ⟨by rw [e]; exact h.c0, by rw [e]; exact h.c1, by rw [e]; exact h.c2, by rw [e]; exact h.c3⟩
theorem box_new (w : World) (v0 v1 v2 v3 : Value) (t : TypeId) : Box (w.alloc (.cells #[v0, v1, v2, v3] t)) w.heap.size v0 v1 v2 v3 := by
  have h := heap_alloc_new w (.cells #[v0, v1, v2, v3] t)
  constructor <;> (unfold World.cell?; simp only [h]; simp)

set_option maxRecDepth 100000 in
set_option maxHeartbeats 4000000 in
theorem refFlushed_any (mb mc sb sc : Nat) (hd : Nat → Nat × Nat) (R : Dv) (rp : Nat → Prop) (w : World) (h : RefV w mb mc sb sc hd R rp) (hc : R.cnt ≤ 4294967296) (hl : R.lost = false) :
    Calls Try.prog 21 #[.agg (refCells R mb mc sb sc)] w fun e w' => ∃ mb' mc' sb' sc' rp', e = .returned (.agg (refCells R.flush mb' mc' sb' sc')) ∧ RefV w' mb' mc' sb' sc' (fun _ => (0, 0)) R.flush rp' ∧ (∀ k, rp' k → w.heap.size ≤ k) ∧ Below w.heap.size w w' := by
  obtain ⟨n, hn⟩ : ∃ n, n = R.med.length := ⟨_, rfl⟩
  have hn2 : n ≤ 4096 := by rw [hn]; exact h.ok.n2
  have hn1 : 1 ≤ n := by rw [hn]; exact h.ok.n1
  obtain ⟨ls, hls⟩ : ∃ ls, ls = (List.range n).map R.now := ⟨_, rfl⟩
  have hlen : ls.length = n := by rw [hls]; simp
  have HLN := Lib.hid hlen
  have hget : ∀ t, t < n → ls[t]? = some (R.now t) := fun t ht => by rw [hls, List.getElem?_map, List.getElem?_range ht]; rfl
  have HG := Lib.hid hget
  have HLS := Lib.hid hls
  have HN := Lib.hid hn
  clear hget hls hlen
  have N := Lib.hid (fun t (ht : t < n) w' (hb : Below w.heap.size w w') => refNow_any mb mc sb sc hd R rp t w' (h.below hb) (by rw [← hn]; exact ht) hc)
  have HV := Lib.hid h
  have hcells : refCells R mb mc sb sc = #[.slice (some ⟨mb, 0, none⟩) n mc, .slice (some ⟨sb, 0, none⟩) n sc, .bool false, .int .i64 (fuseV R)] := by unfold refCells; rw [← hn, hl]
  rw [hcells] at N ⊢
  clear h hn hcells
  generalize hfz : fuseV R = fz at *
  have HFZ := Lib.hid hfz
  clear hfz
  go_enter Try.func21, Try.ntmps21
  go_wp2_with fail
  obtain ⟨w0, hw0⟩ : ∃ w0, w0 = w.alloc (.cells #[.slice (some ⟨mb, 0, none⟩) n mc, .slice (some ⟨sb, 0, none⟩) n sc, .bool false, .int .i64 fz] 45) := ⟨_, rfl⟩
  obtain ⟨w1, hw1⟩ : ∃ w1, w1 = w0.alloc (.cells #[.slice none 0 0, .slice none 0 0, .bool false, .int .i64 0] 45) := ⟨_, rfl⟩
  have hz0 : w0.heap.size = w.heap.size + 1 := by rw [hw0]; simp
  have hz1 : w1.heap.size = w.heap.size + 2 := by rw [hw1]; simp [hz0]
  have hb1 : Below w.heap.size w w1 := by rw [hw1, hw0]; exact ((Below.refl _ w).alloc (Nat.le_refl _) _).alloc (by simp) _
  have hX : Box w1 w.heap.size (.slice (some ⟨mb, 0, none⟩) n mc) (.slice (some ⟨sb, 0, none⟩) n sc) (.bool false) (.int .i64 fz) := by
    rw [hw1, hw0]
    exact (box_new w _ _ _ _ _).below (B := w.heap.size + 1) ((Below.refl _ _).alloc (by simp) _) (by omega)
  have hr1 : w1.heap[w.heap.size + 1]? = some (.cells #[.slice none 0 0, .slice none 0 0, .bool false, .int .i64 0] 45 (0, 0)) := by rw [hw1, ← hz0]; exact heap_alloc_new w0 _
  rw [← hw0, ← hw1, ← hz1]
  have hrel0 : OutRel w1 w1.heap.size n fz ls (.int .i64 0) (w1.alloc (.cells #[.slice none 0 0, .slice none 0 0, .bool false, .int .i64 fz] 45)) :=
    ⟨0, _, _, Nat.zero_le _, rfl, ⟨heap_alloc_new w1 _, World.ownsRow_nil _ _ _ _, World.ownsRow_nil _ _ _ _, Nat.le_refl _⟩, rfl, (Below.refl _ w1).alloc (Nat.le_refl _) _⟩
  have HZ := Lib.hid hz1
  have HR1 := Lib.hid hr1
  have HB1 := Lib.hid hb1
  have HX := Lib.hid hX
  clear hw0 hw1 hz0 hz1 hb1 hr1 hX
  generalize hob : w1.heap.size = ob at *
  have HOB := Lib.hid hob
  clear hob
  go_loopw [4] (fun u wr => OutRel w1 ob n fz ls u wr) (fun u _ => n - (intOf u).toNat)
  case atStart => exact hrel0
  case round =>
    obtain ⟨t, vm, vs, ht, rfl, hO, htl, hb⟩ := hrel
    clear hrel0
    have hxb : w.heap.size < w1.heap.size := by rw [HOB.out, HZ.out]; omega
    have hXr := HX.out.below hb hxb
    have x0 := hXr.c0
    have x1 := hXr.c1
    have x2 := hXr.c2
    have x3 := hXr.c3
    by_cases hlt : t < n
    · have hx := take_succ_some (HG.out t hlt)
      have hz := hb.size
      have HXX := Lib.hid hx
      have HTL := Lib.hid htl
      clear hx htl
      generalize ls.take t = l at *
      have S0 := hO.c0
      have HO := Lib.hid hO
      have Nt := N.out t hlt wr.drew ((HB1.out.trans (hb.mono (Nat.le_of_lt hxb))).drew)
      generalize hst : strOf (R.now t) = st at *
      have HST := Lib.hid hst
      clear hst
      clear hO
      go_wp2_with fail
      refine wp_region_S 8 (fun w' => w'.cell? ⟨ob, 0, none⟩ = some vm ∧ w'.cell? ⟨w.heap.size, 0, none⟩ = some (.slice (some ⟨mb, 0, none⟩) n mc) ∧ w'.cell? ⟨w.heap.size, 1, none⟩ = some (.slice (some ⟨sb, 0, none⟩) n sc) ∧ w'.cell? ⟨w.heap.size, 2, none⟩ = some (.bool false) ∧ w'.cell? ⟨w.heap.size, 3, none⟩ = some (.int .i64 fz)) (by kernel_rfl) ?_
      have hS : wr.drew.cell? ⟨ob, 0, none⟩ = some vm ∧ wr.drew.cell? ⟨w.heap.size, 0, none⟩ = some (.slice (some ⟨mb, 0, none⟩) n mc) ∧ wr.drew.cell? ⟨w.heap.size, 1, none⟩ = some (.slice (some ⟨sb, 0, none⟩) n sc) ∧ wr.drew.cell? ⟨w.heap.size, 2, none⟩ = some (.bool false) ∧ wr.drew.cell? ⟨w.heap.size, 3, none⟩ = some (.int .i64 fz) := ⟨S0, x0, x1, x2, x3⟩
      refine wpAnyS_take (i := 0) (.pointer (some ⟨ob, 0, none⟩)) rfl (by kernel_rfl) (by kernel_rfl) (by kernel_rfl) (by kernel_rfl) (fun _ _ _ h => h) (Or.inl ⟨by rfl, fun w' hw' => ?_⟩) hS ?_
      · go_simp
      (try go_frame)
      refine wpAnyS_take (i := 1) (vm) rfl (by kernel_rfl) (by kernel_rfl) (by kernel_rfl) (by kernel_rfl) (fun _ _ _ h => h) (Or.inl ⟨by rfl, fun w' hw' => ?_⟩) hS ?_
      · (obtain ⟨y, _⟩ := hw'; go_simp)
      (try go_frame)
      refine wpAnyS_take (i := 2) (.agg #[.slice (some ⟨mb, 0, none⟩) n mc, .slice (some ⟨sb, 0, none⟩) n sc, .bool false, .int .i64 fz]) rfl (by kernel_rfl) (by kernel_rfl) (by kernel_rfl) (by kernel_rfl) (fun _ _ _ h => h) (Or.inl ⟨by rfl, fun w' hw' => ?_⟩) hS ?_
      · (obtain ⟨_, y0, y1, y2, y3⟩ := hw'; go_simp)
      (try go_frame)
      refine wpAnyS_take (i := 3) (.int .i64 (t : Int)) rfl (by kernel_rfl) (by kernel_rfl) (by kernel_rfl) (by kernel_rfl) (fun _ _ _ h => h) (Or.inl ⟨by rfl, fun w' hw' => ?_⟩) hS ?_
      · go_simp
      (try go_frame)
      refine wpAnyS_step (i := 4) (by kernel_rfl) rfl rfl fun K hK => ?_
      clear hS
      go_simp
      refine Nt.mono ?_
      rintro e w4 ⟨rfl, b4⟩
      have hO4 := (HO.out.below (Below.refl _ wr).drew).below b4
      have b5 : Below w1.heap.size w1 w4 := early hb.drew hz b4
      have hz5 := b5.size
      have X4 := HX.out.below b5 hxb
      refine hK _ _ (fun _ => ⟨hO4.c0, X4.c0, X4.c1, X4.c2, X4.c3⟩) ?_
      clear hK S0 x0 x1 x2 x3 Nt
      (try go_frame)
      refine wpAnyS_step (i := 5) (by kernel_rfl) rfl rfl fun K hK => ?_
      go_simp
      have hO5 := hO4.below ((Below.refl _ w4).alloc (Nat.le_refl _) (.cells #[.string st] 9))
      have b6 : Below w1.heap.size w1 (w4.alloc (.cells #[.string st] 9)) := b5.alloc hz5 _
      have X5 := HX.out.below b6 hxb
      refine hK _ _ (fun _ => ⟨hO5.c0, X5.c0, X5.c1, X5.c2, X5.c3⟩) ?_
      clear hK
      (try go_frame)
      obtain ⟨g, c, w6, e1, c6, f6, hO6, b7⟩ := out_med hO5 w4.heap.size (R.now t) (by rw [HST.out]; simp) b6.size (by rw [HTL.out]; omega) 42
      have b8 := b6.trans b7
      clear hO4 hO5 b5 b4
      have X6 : Box w6 w.heap.size (.slice (some ⟨mb, 0, none⟩) n mc) (.slice (some ⟨sb, 0, none⟩) n sc) (.bool false) (.int .i64 fz) := by
        have X := HX.out.below b8 hxb
        have hne : w.heap.size ≠ ob := by rw [HZ.out]; omega
        exact ⟨by have := X.c0; rwa [World.cell?_setCell_other _ _ _ _ (by intro h; injection h with h _ _; exact hne h.symm)] at this, by have := X.c1; rwa [World.cell?_setCell_other _ _ _ _ (by intro h; injection h with h _ _; exact hne h.symm)] at this,
          by have := X.c2; rwa [World.cell?_setCell_other _ _ _ _ (by intro h; injection h with h _ _; exact hne h.symm)] at this, by have := X.c3; rwa [World.cell?_setCell_other _ _ _ _ (by intro h; injection h with h _ _; exact hne h.symm)] at this⟩
      refine wpAnyS_step (i := 6) (by kernel_rfl) rfl rfl fun K hK => Lib.wp_append_run _ _ _ _ _ rfl _ _ rfl rfl _ _ e1 ?_
      refine hK _ _ (fun _ => ⟨c6, X6.c0, X6.c1, X6.c2, X6.c3⟩) ?_
      clear hK
      have hS : w6.cell? ⟨ob, 0, none⟩ = some vm ∧ w6.cell? ⟨w.heap.size, 0, none⟩ = some (.slice (some ⟨mb, 0, none⟩) n mc) ∧ w6.cell? ⟨w.heap.size, 1, none⟩ = some (.slice (some ⟨sb, 0, none⟩) n sc) ∧ w6.cell? ⟨w.heap.size, 2, none⟩ = some (.bool false) ∧ w6.cell? ⟨w.heap.size, 3, none⟩ = some (.int .i64 fz) := ⟨c6, X6.c0, X6.c1, X6.c2, X6.c3⟩
      (try go_frame)
      refine wpAnyS_take (i := 7) (.pointer (some ⟨ob, 0, none⟩)) rfl (by kernel_rfl) (by kernel_rfl) (by kernel_rfl) (by kernel_rfl) (fun _ _ _ h => h) (Or.inl ⟨by rfl, fun w' hw' => ?_⟩) hS ?_
      · go_simp
      (try go_frame)
      refine wpAnyS_step (i := 8) (by kernel_rfl) rfl rfl fun K hK => ?_
      clear hS
      go_simp
      refine hK _ _ (fun h => absurd rfl h) ?_
      clear hK e1 c6 f6 X6 X4 X5 b6 b7
      rw [HTL.out] at hO6 b8 ⊢
      generalize w6.setCell ⟨ob, 0, none⟩ (.slice (some ⟨g, 0, none⟩) (t + 1) c) = w7 at *
      have hz8 := b8.size
      refine wpAnyS_done (by kernel_rfl) ?_ _
      have hO7 := hO6.below ((Below.refl _ w7).alloc (Nat.le_refl _) (.cells #[.slice none 0 0] 42))
      have b9 : Below w1.heap.size w1 (w7.alloc (.cells #[.slice none 0 0] 42)) := b8.alloc hz8 _
      obtain ⟨g2, c2, w8, e2, c8, f8, hO8, b10⟩ := out_sin hO7 w7.heap.size (by simp) b9.size (by omega) 43
      have b11 := b9.trans b10
      have d1 := hO6.c1
      have HO8 := Lib.hid hO8
      clear hO6 hO7 hO8 b9 b10 hz8
      go_wp2_with (first | (at_builtin; refine Lib.wpList_append_run _ rfl _ _ _ _ rfl _ _ rfl rfl _ _ e2 ?_))
      go_roundw
      case rel => exact ⟨t + 1, _, _, by omega, by go_num, by rw [HXX.out]; exact HO8.out, by rw [HXX.out, List.length_append, HTL.out]; rfl, b11⟩
      case measure => simp [intOf]; omega
    · obtain rfl : t = n := by omega
      rw [List.take_of_length_le (by rw [HLN.out]; exact Nat.le_refl _)] at hO htl
      have hO' : Out wr w1.heap.size ob fz vm vs ls ls.length := by rw [htl]; exact hO
      have hok : DvOk R.flush := ⟨by simp [Dv.flush, ← HN.out]; omega, by simp [Dv.flush, ← HN.out]; omega, fun _ _ => rfl, HV.out.ok.left, fun _ => Nat.le_refl _⟩
      obtain ⟨mb', mc', sb', sc', rp', hcells, hV, hrp⟩ := out_ref hO' R.flush hok (by rw [HLS.out, HN.out]; rfl) (fun _ => rfl) hl (by rw [← HFZ.out]; rfl)
      have HCE := Lib.hid hcells
      clear hcells
      have k0 := hO.c0
      have k1 := hO.c1
      have k2 : wr.cell? ⟨ob, 2, none⟩ = some (.bool false) := by simp [World.cell?, hO.blk]
      have k3 : wr.cell? ⟨ob, 3, none⟩ = some (.int .i64 fz) := by simp [World.cell?, hO.blk]
      have hwl : w.heap.size + 1 < w1.heap.size := by rw [HOB.out, HZ.out]; omega
      have hblk : wr.heap[w.heap.size + 1]? = some (.cells #[.slice none 0 0, .slice none 0 0, .bool false, .int .i64 0] 45 (0, 0)) := (hb.block _ hwl).trans HR1.out
      have r0 : wr.cell? ⟨w.heap.size + 1, 0, none⟩ = some (.slice none 0 0) := by simp [World.cell?, hblk]
      have r1 : wr.cell? ⟨w.heap.size + 1, 1, none⟩ = some (.slice none 0 0) := by simp [World.cell?, hblk]
      have r2 : wr.cell? ⟨w.heap.size + 1, 2, none⟩ = some (.bool false) := by simp [World.cell?, hblk]
      have r3 : wr.cell? ⟨w.heap.size + 1, 3, none⟩ = some (.int .i64 0) := by simp [World.cell?, hblk]
      have rf : ∀ o, wr.frozen? ⟨w.heap.size + 1, o, none⟩ = false := fun o => by simp [World.frozen?, hblk]
      have HO := Lib.hid hO
      clear hO hO' htl ht hlt hblk
      obtain ⟨am, nm, cm, rfl⟩ : ∃ a n c, vm = .slice a n c := by
        rcases HO.out.m.2 with ⟨rfl, _⟩ | ⟨_, _, _, rfl, _⟩
        · exact ⟨_, _, _, rfl⟩
        · exact ⟨_, _, _, rfl⟩
      obtain ⟨a_s, n_s, c_s, rfl⟩ : ∃ a n c, vs = .slice a n c := by
        rcases HO.out.s.2 with ⟨rfl, _⟩ | ⟨_, _, _, rfl, _⟩
        · exact ⟨_, _, _, rfl⟩
        · exact ⟨_, _, _, rfl⟩
      go_wp2
      refine bodyPost_ret (v := .agg #[.slice am nm cm, .slice a_s n_s c_s, .bool false, .int .i64 fz]) (by simp [results, Try.results21, go_sem, r0, r1, r2, r3]) rfl ⟨mb', mc', sb', sc', rp', by rw [HCE.out], ?_, fun k hk => by have := hrp k hk; omega, ?_⟩
      · exact hV.same (Nat.le_of_eq (set4_size wr (w.heap.size + 1) _ _ _ _).symm) fun k hk => set4_same _ _ _ _ _ _ _ (by have := hrp k hk; omega)
      · exact set4_below (HB1.out.trans (hb.mono (Nat.le_of_lt hxb))) (Nat.le_succ _) _ _ _ _
end Go.Proofs.Ytmkheikllbjcbaa
