/-
  The document's New: the walk.
-/
import Derived.Test.YtmkheikllbjcbaaEc
namespace Go.Proofs.Ytmkheikllbjcbaa
open Go.RowKit Go.Maps

def OutRel (w : World) (ob n : Nat) (f : Int) (ls : List Sec) (u : Value) (wr : World) : Prop :=
  ∃ t vm vs, t ≤ n ∧ u = .int .i64 ((t : Nat) : Int) ∧ Out wr w.heap.size ob f vm vs (ls.take t) t ∧ (ls.take t).length = t ∧ Below w.heap.size w wr
def set4 (w : World) (b : Nat) (v0 v1 v2 v3 : Value) : World := (((w.setCell ⟨b, 0, none⟩ v0).setCell ⟨b, 1, none⟩ v1).setCell ⟨b, 2, none⟩ v2).setCell ⟨b, 3, none⟩ v3
theorem set4_same (w : World) (b : Nat) (v0 v1 v2 v3 : Value) (k : Nat) (h : k ≠ b) : (set4 w b v0 v1 v2 v3).heap[k]? = w.heap[k]? := by
  unfold set4
  rw [Below.heap_setCell _ _ _ _ h, Below.heap_setCell _ _ _ _ h, Below.heap_setCell _ _ _ _ h, Below.heap_setCell _ _ _ _ h]
theorem set4_size (w : World) (b : Nat) (v0 v1 v2 v3 : Value) : (set4 w b v0 v1 v2 v3).heap.size = w.heap.size := by simp [set4, World.setCell]
theorem set4_below {B : Nat} {a w : World} (h : Below B a w) {b : Nat} (hb : B ≤ b) (v0 v1 v2 v3 : Value) : Below B a (set4 w b v0 v1 v2 v3) := (((h.setCell hb _).setCell hb _).setCell hb _).setCell hb _
theorem take_succ_some {ls : List Sec} {t : Nat} {x : Sec} (h : ls[t]? = some x) : ls.take (t + 1) = ls.take t ++ [x] := by
  rw [List.take_add_one, h]; rfl
set_option maxRecDepth 100000 in
set_option maxHeartbeats 2000000 in
theorem refNew_any (n : Nat) (fill : UInt8) (w : World) (h1 : 1 ≤ n) (h2 : n ≤ 4096) :
    Calls Try.prog 19 #[.int .i64 (n : Int), .int .u8 (fill.toNat : Int)] w fun e w' => ∃ mb mc sb sc rp, e = .returned (.agg (refCells ((newDv n).fresh fill) mb mc sb sc)) ∧ RefV w' mb mc sb sc (fun _ => (0, 0)) ((newDv n).fresh fill) rp ∧ (∀ k, rp k → w.heap.size ≤ k) ∧ Below w.heap.size w w' := by
  have F := fun w => full_any fill w
  obtain ⟨ls, hls⟩ : ∃ ls, ls = List.replicate n (fullS fill) := ⟨_, rfl⟩
  have hlen : ls.length = n := by rw [hls]; simp
  have HLN := Lib.hid hlen
  have hget : ∀ t, t < n → ls[t]? = some (fullS fill) := fun t ht => by rw [hls, List.getElem?_replicate, if_pos ht]
  have HG := Lib.hid hget
  have HLS := Lib.hid hls
  clear hget hls hlen
  generalize hst : strOf (fullS fill) = st at *
  have HST := Lib.hid hst
  clear hst
  go_enter Try.func19, Try.ntmps19
  go_wp2_with fail
  obtain ⟨w1, hw1⟩ : ∃ w1, w1 = w.alloc (.cells #[.slice none 0 0, .slice none 0 0, .bool false, .int .i64 0] 45) := ⟨_, rfl⟩
  have hz1 : w1.heap.size = w.heap.size + 1 := by rw [hw1]; simp
  have hb1 : Below w.heap.size w w1 := by rw [hw1]; exact (Below.refl _ w).alloc (Nat.le_refl _) _
  have hr1 : w1.heap[w.heap.size]? = some (.cells #[.slice none 0 0, .slice none 0 0, .bool false, .int .i64 0] 45 (0, 0)) := by rw [hw1]; exact heap_alloc_new w _
  rw [← hw1, ← hz1]
  have hrel0 : OutRel w1 w1.heap.size n (-1) ls (.int .i64 0) (w1.alloc (.cells #[.slice none 0 0, .slice none 0 0, .bool false, .int .i64 (-1)] 45)) :=
    ⟨0, _, _, Nat.zero_le _, rfl, ⟨heap_alloc_new w1 _, World.ownsRow_nil _ _ _ _, World.ownsRow_nil _ _ _ _, Nat.le_refl _⟩, rfl, (Below.refl _ w1).alloc (Nat.le_refl _) _⟩
  have HZ := Lib.hid hz1
  have HR1 := Lib.hid hr1
  have HB1 := Lib.hid hb1
  clear hw1 hz1 hb1 hr1
  generalize hob : w1.heap.size = ob at *
  have HOB := Lib.hid hob
  clear hob
  go_loopw [6] (fun u wr => OutRel w1 ob n (-1) ls u wr) (fun u _ => n - (intOf u).toNat)
  case atStart => exact hrel0
  case round =>
    obtain ⟨t, vm, vs, ht, rfl, hO, htl, hb⟩ := hrel
    clear hrel0
    by_cases hlt : t < n
    · have hx := take_succ_some (HG.out t hlt)
      have hz := hb.size
      have HX := Lib.hid hx
      have HTL := Lib.hid htl
      clear hx htl
      generalize ls.take t = l at *
      have S0 := hO.c0
      have HO := Lib.hid hO
      clear hO
      go_wp2_with fail
      refine wp_region_S 7 (fun w' => w'.cell? ⟨ob, 0, none⟩ = some vm) (by kernel_rfl) ?_
      have hS : wr.drew.cell? ⟨ob, 0, none⟩ = some vm := S0
      refine wpAnyS_take (i := 0) (.pointer (some ⟨ob, 0, none⟩)) rfl (by kernel_rfl) (by kernel_rfl) (by kernel_rfl) (by kernel_rfl) (fun _ _ _ h => h) (Or.inl ⟨by rfl, fun w' hw' => ?_⟩) hS ?_
      · go_simp
      (try go_frame)
      refine wpAnyS_take (i := 1) (vm) rfl (by kernel_rfl) (by kernel_rfl) (by kernel_rfl) (by kernel_rfl) (fun _ _ _ h => h) (Or.inl ⟨by rfl, fun w' hw' => ?_⟩) hS ?_
      · (simp only at hw'; go_simp)
      (try go_frame)
      refine wpAnyS_take (i := 2) (.int .u8 (fill.toNat : Int)) rfl (by kernel_rfl) (by kernel_rfl) (by kernel_rfl) (by kernel_rfl) (fun _ _ _ h => h) (Or.inl ⟨by rfl, fun w' hw' => ?_⟩) hS ?_
      · go_simp
      (try go_frame)
      refine wpAnyS_step (i := 3) (by kernel_rfl) rfl rfl fun K hK => ?_
      go_simp
      refine (F _).mono ?_
      rintro e w4 ⟨rfl, b4⟩
      have hO4 := (HO.out.below (Below.refl _ wr).drew).below b4
      have b5 : Below w1.heap.size w1 w4 := early hb.drew hz b4
      have hz5 := b5.size
      refine hK _ _ (fun _ => hO4.c0) ?_
      clear hK hS S0
      (try go_frame)
      refine wpAnyS_step (i := 4) (by kernel_rfl) rfl rfl fun K hK => ?_
      go_simp
      have hO5 := hO4.below ((Below.refl _ w4).alloc (Nat.le_refl _) (.cells #[.string st] 9))
      have b6 : Below w1.heap.size w1 (w4.alloc (.cells #[.string st] 9)) := b5.alloc hz5 _
      refine hK _ _ (fun _ => hO5.c0) ?_
      clear hK
      (try go_frame)
      obtain ⟨g, c, w6, e1, c6, f6, hO6, b7⟩ := out_med hO5 w4.heap.size (fullS fill) (by rw [HST.out]; simp) b6.size (by rw [HTL.out]; omega) 42
      have b8 := b6.trans b7
      clear hO4 hO5 b6 b7 b5 b4
      refine wpAnyS_step (i := 5) (by kernel_rfl) rfl rfl fun K hK => Lib.wp_append_run _ _ _ _ _ rfl _ _ rfl rfl _ _ e1 ?_
      refine hK _ _ (fun _ => c6) ?_
      clear hK
      have hS := c6
      (try go_frame)
      refine wpAnyS_take (i := 6) (.pointer (some ⟨ob, 0, none⟩)) rfl (by kernel_rfl) (by kernel_rfl) (by kernel_rfl) (by kernel_rfl) (fun _ _ _ h => h) (Or.inl ⟨by rfl, fun w' hw' => ?_⟩) hS ?_
      · go_simp
      (try go_frame)
      refine wpAnyS_step (i := 7) (by kernel_rfl) rfl rfl fun K hK => ?_
      go_simp
      refine hK _ _ (fun h => absurd rfl h) ?_
      clear hK hS e1 c6 f6
      rw [HTL.out] at hO6 b8 ⊢
      generalize w6.setCell ⟨ob, 0, none⟩ (.slice (some ⟨g, 0, none⟩) (t + 1) c) = w7 at *
      have hz8 := b8.size
      refine wpAnyS_done (by kernel_rfl) ?_ _
      have hO7 := hO6.below ((Below.refl _ w7).alloc (Nat.le_refl _) (.cells #[.slice none 0 0] 42))
      have b9 : Below w1.heap.size w1 (w7.alloc (.cells #[.slice none 0 0] 42)) := b8.alloc hz8 _
      obtain ⟨g2, c2, w8, e2, c8, f8, hO8, b10⟩ := out_sin hO7 w7.heap.size (by simp) b9.size (by omega) 43
      have b11 := b9.trans b10
      have d1 := hO6.c1
      have HO8 := Lib.hid hO8
      clear hO6 hO7 hO8 b9 b10 hz8
      go_wp2_with (first | (at_builtin; refine Lib.wpList_append_run _ rfl _ _ _ _ rfl _ _ rfl rfl _ _ e2 ?_))
      go_roundw
      case rel => exact ⟨t + 1, _, _, by omega, by go_num, by rw [HX.out]; exact HO8.out, by rw [HX.out, List.length_append, HTL.out]; rfl, b11⟩
      case measure => simp [intOf]; omega
    · obtain rfl : t = n := by omega
      rw [List.take_of_length_le (by rw [HLN.out]; exact Nat.le_refl _)] at hO htl
      have hO' : Out wr w1.heap.size ob (-1) vm vs ls ls.length := by rw [htl]; exact hO
      have hok : DvOk ((newDv t).fresh fill) := ⟨by simp [Dv.fresh, newDv]; omega, by simp [Dv.fresh, newDv]; omega, fun _ _ => rfl, by show 0 < _; omega, fun _ => Nat.le_refl _⟩
      obtain ⟨mb, mc, sb, sc, rp, hcells, hV, hrp⟩ := out_ref hO' ((newDv t).fresh fill) hok (by rw [HLS.out]; simp [Dv.fresh, newDv]) (fun _ => rfl) rfl rfl
      have HCE := Lib.hid hcells
      clear hcells
      have k0 := hO.c0
      have k1 := hO.c1
      have k2 : wr.cell? ⟨ob, 2, none⟩ = some (.bool false) := by simp [World.cell?, hO.blk]
      have k3 : wr.cell? ⟨ob, 3, none⟩ = some (.int .i64 (-1)) := by simp [World.cell?, hO.blk]
      have hwl : w.heap.size < w1.heap.size := by rw [HOB.out, HZ.out]; omega
      have hblk : wr.heap[w.heap.size]? = some (.cells #[.slice none 0 0, .slice none 0 0, .bool false, .int .i64 0] 45 (0, 0)) := (hb.block _ hwl).trans HR1.out
      have r0 : wr.cell? ⟨w.heap.size, 0, none⟩ = some (.slice none 0 0) := by simp [World.cell?, hblk]
      have r1 : wr.cell? ⟨w.heap.size, 1, none⟩ = some (.slice none 0 0) := by simp [World.cell?, hblk]
      have r2 : wr.cell? ⟨w.heap.size, 2, none⟩ = some (.bool false) := by simp [World.cell?, hblk]
      have r3 : wr.cell? ⟨w.heap.size, 3, none⟩ = some (.int .i64 0) := by simp [World.cell?, hblk]
      have rf : ∀ o, wr.frozen? ⟨w.heap.size, o, none⟩ = false := fun o => by simp [World.frozen?, hblk]
      have HO := Lib.hid hO
      clear hO hO' htl ht hlt hblk
      obtain ⟨am, nm, cm, rfl⟩ : ∃ a n c, vm = .slice a n c := by
        rcases HO.out.m.2 with ⟨rfl, _⟩ | ⟨_, _, _, rfl, _⟩
        · exact ⟨_, _, _, rfl⟩
        · exact ⟨_, _, _, rfl⟩
      obtain ⟨a_s, n_s, c_s, rfl⟩ : ∃ a n c, vs = .slice a n c := by
        rcases HO.out.s.2 with ⟨rfl, _⟩ | ⟨_, _, _, rfl, _⟩
        · exact ⟨_, _, _, rfl⟩
        · exact ⟨_, _, _, rfl⟩
      go_wp2
      refine bodyPost_ret (v := .agg #[.slice am nm cm, .slice a_s n_s c_s, .bool false, .int .i64 (-1)]) (by simp [results, Try.results19, go_sem, r0, r1, r2, r3]) rfl ⟨mb, mc, sb, sc, rp, by rw [HCE.out], ?_, fun k hk => by have := hrp k hk; omega, ?_⟩
      · exact hV.same (Nat.le_of_eq (set4_size wr w.heap.size _ _ _ _).symm) fun k hk => set4_same _ _ _ _ _ _ _ (by have := hrp k hk; omega)
      · exact set4_below (HB1.out.trans (hb.mono (Nat.le_of_lt hwl))) (Nat.le_refl _) _ _ _ _
end Go.Proofs.Ytmkheikllbjcbaa
