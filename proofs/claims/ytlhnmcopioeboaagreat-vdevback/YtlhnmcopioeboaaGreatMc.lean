/-
  vdev.Right of a pool's devices; put.
  vdev.put: a column is written, where its device is here.
  Columns compared: the document's Same; the example.
  slices.DeleteFunc of columns: the parities are left out.
  slices.DeleteFunc of columns, walked.
  A block's columns: where they are.
  cols.Data, cols.Rows: what they answer.
  The data columns of a block's sectors: how many there are.
  The rows of a block's columns.
  Blocks as columns, and what columns may come to: plain facts (no program is named here).
  par.Even, par.Blank, polderlaw03.few: what they answer.
  par.Blank, the document's Zeros and Even, polderlaw03.few: what they answer.
  par.mix, par.Make: what they answer.
  polderlaw03.awake, par.Right: what they answer.
  A text of zero bytes, made.
  A slice of texts that is one's own: one of its texts read, and laid anew.
  slices.Grow, slices.Concat of two, par.Again: what they answer.
-/
import Derived.Test.YtlhnmcopioeboaaGreatMb
import Derived.Lib.SliceRun
import Derived.StillTailTactics
import Derived.Laws.MakeOwn
import Derived.Deep.RegionWith

/- vdev.Right of a pool's devices; put. -/
namespace Go.Proofs.YtlhnmcopioeboaaGreat
set_option maxRecDepth 100000
open Go.RowKit Go.Maps

section
variable {X : Nat → Prop} {B : Nat} {w : World} {x : Px} {l : List (Int × Int)} {ds : Nat → Dv} {aw : Nat → Bool} {K : Nat} {P : World → Prop}
set_option maxHeartbeats 1000000 in
theorem rindex_any (h : StX X B w x l ds aw K P) (b0 : Nat) (h1 : w.cell? ⟨b0, 1, none⟩ = some (.int .i64 x.sc)) :
    Calls Tryz.prog 65 #[.slice (some ⟨x.lb, 0, none⟩) x.n x.n, .func (.func 42) #[] #[.pointer (some ⟨b0, 0, none⟩)]] w fun e w' =>
      e = .returned (.int .i64 (-1)) ∧ Below w.heap.size w w' := by
  obtain ⟨_, h32⟩ := h.right.1.devs h.right.2
  have HS := Lib.hid h
  have hb0 := World.block_lt_of_cell? w _ h1
  have H1 := Lib.hid h1
  clear h h1
  generalize hn : x.n = n at h32
  generalize hlb : x.lb = lb
  have HN := Lib.hid hn
  have HLB := Lib.hid hlb
  clear hn hlb
  go_enter Tryz.func65, Tryz.ntmps65
  go_wp2_with fail
  go_loopw [8] (fun i wr => ∃ k : Nat, k ≤ n ∧ i = .int .i64 k ∧ Below w.heap.size w wr) (fun i _ => n - (intOf i).toNat)
  case atStart => exact ⟨0, Nat.zero_le _, rfl, Below.refl _ _⟩
  case round =>
    obtain ⟨k, hk, rfl, hb⟩ := hrel
    by_cases hlt : k < n
    · have h' := HS.out.below hb
      obtain ⟨b, f, cl, hd⟩ := h'.at_ (i := k) (by rw [HN.out]; exact hlt)
      rw [HLB.out] at cl
      have HC := Lib.hid (rpred_any h' k (by rw [HN.out]; exact hlt) b b0 f hd ((hb.cell (p := ⟨b0, 1, none⟩) hb0).trans H1.out))
      clear h' hd
      go_wp2_with fail
      refine HC.out.mono ?_
      rintro e w1 ⟨rfl, b1⟩
      go_wp2
      go_roundw
      case rel => exact ⟨k + 1, by omega, by go_num, next hb b1⟩
      case measure => simp [intOf]; omega
    · go_wp2
      go_ret
      exact ⟨rfl, hb⟩
theorem rcontains_any (h : StX X B w x l ds aw K P) (b0 : Nat) (h1 : w.cell? ⟨b0, 1, none⟩ = some (.int .i64 x.sc)) :
    Calls Tryz.prog 41 #[.slice (some ⟨x.lb, 0, none⟩) x.n x.n, .func (.func 42) #[] #[.pointer (some ⟨b0, 0, none⟩)]] w fun e w' =>
      e = .returned (.bool false) ∧ Below w.heap.size w w' := by
  have hI := Lib.hid (rindex_any h b0 h1)
  clear h h1
  go_enter Tryz.func41, Tryz.ntmps41
  go_wp2_with fail
  refine hI.out.mono ?_
  rintro e w1 ⟨rfl, b1⟩
  go_wp2
  go_ret
  exact ⟨rfl, b1⟩
theorem New.block (w : World) (o : Obj) (B : Nat) (hB : B ≤ w.heap.size) : New B (w.alloc o) (fun w' => w'.heap[w.heap.size]? = some o) := fun w' _ hb =>
  (hb w.heap.size hB (by simp)).trans (heap_alloc_new w o)
theorem BoxX.new (w : World) (x : Px) (B : Nat) (hB : B ≤ w.heap.size) (t : TypeId) : New B (w.alloc (.cells #[.slice x.ga x.gn x.gc, .int .i64 x.sc, .slice (some ⟨x.lb, 0, none⟩) x.n x.n, .slice (some ⟨x.ab, 0, none⟩) x.n x.n] t)) (BoxX x w.heap.size) :=
  (New.block w _ B hB).mono fun w' e => ⟨by simp [World.cell?, e], by simp [World.cell?, e], by simp [World.cell?, e], by simp [World.cell?, e]⟩
set_option maxHeartbeats 1000000 in
theorem right8_any (h : StX X B w x l ds aw K P) : Calls Tryz.prog 20 #[x.val] w fun e w' => e = .returned (.bool true) ∧ Below w.heap.size w w' := by
  obtain ⟨hp, h32⟩ := h.right.1.devs h.right.2
  have hb := boxed w (.cells #[.slice x.ga x.gn x.gc, .int .i64 x.sc, .slice (some ⟨x.lb, 0, none⟩) x.n x.n, .slice (some ⟨x.ab, 0, none⟩) x.n x.n] 31)
  have H1 := Lib.hid (h.add hb (BoxX.new w x _ (Nat.le_refl _) _))
  have HD := Lib.hid (devs_any l x.sc x.g _ H1.out.meas _ h.right.2)
  have HB := Lib.hid hb
  clear h hb
  have hn0 : ((x.n : Int) == 0) = false := by simp; omega
  have hnn : ((x.n : Int) != (x.n : Int)) = false := by simp
  unfold Px.val
  unfold Px.g at HD
  go_enter Tryz.func20, Tryz.ntmps20
  go_wp2_with fail
  refine HD.out.mono ?_
  rintro e w1 ⟨rfl, b1⟩
  have H2 := Lib.hid (H1.out.below b1)
  have HB2 := Lib.hid (next HB.out b1)
  clear b1 H1 HD HB
  have hx := H2.out.out.2
  have c0 := hx.c0
  have c1 := hx.c1
  have c2 := hx.c2
  have c3 := hx.c3
  have HC := Lib.hid (rcontains_any H2.out _ hx.c1)
  clear hx
  go_wp2_with fail
  refine HC.out.mono ?_
  rintro e w2 ⟨rfl, b2⟩
  go_wp2
  go_ret
  exact ⟨rfl, next HB2.out b2⟩
end
end Go.Proofs.YtlhnmcopioeboaaGreat

/- vdev.put: a column is written, where its device is here. -/
namespace Go.Proofs.YtlhnmcopioeboaaGreat
set_option maxRecDepth 100000
open Go.RowKit Go.Maps

section
variable {X : Nat → Prop} {B : Nat} {w : World} {x : Px} {l : List (Int × Int)} {ds : Nat → Dv} {aw : Nat → Bool} {K : Nat} {P : World → Prop}
theorem spent_self {S : Dv} (h : S.fused = false) : S.spent = S ∧ S.pass = true := by
  refine ⟨?_, by simp [Dv.pass, h]⟩
  unfold Dv.spent
  rw [h]
  cases S
  simp_all
theorem wr_any (h : StX X B w x l ds aw K P) {i : Nat} (hi : i < x.n) (hl : (ds i).lost = false) (a : Nat) (ha : (a : Int) < x.sc) (s : ByteArray) (hs : s.size = 64) (hK : K < 4294967295) :
    ∃ b, w.cell? ⟨x.lb, i, none⟩ = some (.pointer (some ⟨b, 0, none⟩)) ∧ ∀ w4, Below w.heap.size w w4 → Calls Tryz.prog 34 #[.pointer (some ⟨b, 0, none⟩), .int .i64 (a : Int), .string s] w4 fun e w' =>
      e = .returned (.int .i64 0) ∧ StX X B w' x l (upd ds i ((ds i).put a s.data.toList)) aw (K + 1) P ∧ Below B w4 w' ∧ w'.heap[x.lb]? = w4.heap[x.lb]? ∧ ∀ k, X k → w'.heap[k]? = w4.heap[k]? := by
  obtain ⟨b, f, hb, _⟩ := h.at_ hi
  refine ⟨b, hb, fun w4 b4 => ?_⟩
  have h4 := h.below b4
  obtain ⟨b', f', hb', hd', hdid⟩ := h4.did hi
  have hlt := World.block_lt_of_cell? w _ hb
  have e := (b4.cell (p := ⟨x.lb, i, none⟩) hlt).trans hb
  rw [hb'] at e
  simp only [Option.some.injEq, Value.pointer.injEq, Addr.mk.injEq, and_true] at e
  subst e
  have hg := h.good hi
  obtain ⟨e1, e2⟩ := spent_self hg.fused
  have hlen := hg.len
  have hcnt := hg.cnt
  have hw := write_ok b' (ds i) f' a s w4 hd' hl (by omega) hs e2 (by omega)
  rw [e1] at hw
  refine hw.mono fun e w' ⟨he, hd⟩ => ⟨he, hdid _ w' (K + 1) hd ⟨hg.fused, hg.len, by show _ + 1 ≤ _; omega⟩ (by omega)⟩
/-- A box that holds a column. -/
structure BoxC (c : C) (b : Nat) (w : World) : Prop where
  c0 : w.cell? ⟨b, 0, none⟩ = some (.int .i64 c.dev)
  c1 : w.cell? ⟨b, 1, none⟩ = some (.int .i64 c.at_)
  c2 : w.cell? ⟨b, 2, none⟩ = some (.bool c.par)
  c3 : w.cell? ⟨b, 3, none⟩ = some (.int .i64 c.row)
theorem BoxC.new (w : World) (c : C) (B : Nat) (hB : B ≤ w.heap.size) (t : TypeId) : New B (w.alloc (.cells #[.int .i64 c.dev, .int .i64 c.at_, .bool c.par, .int .i64 c.row] t)) (BoxC c w.heap.size) :=
  (New.block w _ B hB).mono fun w' e => ⟨by simp [World.cell?, e], by simp [World.cell?, e], by simp [World.cell?, e], by simp [World.cell?, e]⟩
/-- What becomes of the devices as a column is put. -/
def putD (ds : Nat → Dv) (aw : Nat → Bool) (d a : Nat) (s : ByteArray) : Nat → Dv := if hereB ds aw d then upd ds d ((ds d).put a s.data.toList) else ds
theorem hereB_put (ds : Nat → Dv) (aw : Nat → Bool) (d a : Nat) (s : ByteArray) : hereB (putD ds aw d a s) aw = hereB ds aw := by
  unfold putD
  split
  · funext j
    unfold hereB upd
    by_cases e : j = d
    · subst e; simp [Dv.put]
    · simp [e]
  · rfl

set_option maxHeartbeats 2000000 in
theorem put_any (h : StX X B w x l ds aw K P) (c : C) (d a : Nat) (hcd : c.dev = (d : Int)) (hd : d < x.n) (hca : c.at_ = (a : Int)) (ha : (a : Int) < x.sc) (s : ByteArray) (hs : s.size = 64) (hK : K < 4294967295) :
    Calls Tryz.prog 14 #[x.val, c.val, .string s] w fun e w' => e = .returned (.bool (hereB ds aw d)) ∧ StX X B w' x l (putD ds aw d a s) aw (K + 1) P ∧ Below B w w' ∧ ∀ k, X k → w'.heap[k]? = w.heap[k]? := by
  obtain ⟨_, h32⟩ := h.right.1.devs h.right.2
  have hB := h.lt.2
  have hXl := h.lt.1
  have b1 := boxed w (.cells #[.slice x.ga x.gn x.gc, .int .i64 x.sc, .slice (some ⟨x.lb, 0, none⟩) x.n x.n, .slice (some ⟨x.ab, 0, none⟩) x.n x.n] 31)
  have H1 := h.add b1 (BoxX.new w x _ (Nat.le_refl _) _)
  have hz1 : (w.alloc (.cells #[.slice x.ga x.gn x.gc, .int .i64 x.sc, .slice (some ⟨x.lb, 0, none⟩) x.n x.n, .slice (some ⟨x.ab, 0, none⟩) x.n x.n] 31)).heap.size = w.heap.size + 1 := by simp
  generalize hw1 : w.alloc (.cells #[.slice x.ga x.gn x.gc, .int .i64 x.sc, .slice (some ⟨x.lb, 0, none⟩) x.n x.n, .slice (some ⟨x.ab, 0, none⟩) x.n x.n] 31) = w1 at b1 H1 hz1
  have b2 := boxed w1 (.cells #[.int .i64 c.dev, .int .i64 c.at_, .bool c.par, .int .i64 c.row] 44)
  have H2 := H1.add b2 (BoxC.new w1 c _ (Nat.le_refl _) _)
  rw [hz1] at H2
  generalize hw2 : w1.alloc (.cells #[.int .i64 c.dev, .int .i64 c.at_, .bool c.par, .int .i64 c.row] 44) = w2 at b2 H2
  have bb := next b1 b2
  have HH : Hid (∀ w4, Below w2.heap.size w2 w4 → Calls Tryz.prog 21 #[x.val, .int .i64 (d : Int)] w4 fun e w' => e = .returned (.bool (hereB ds aw d)) ∧ Below w4.heap.size w4 w') := Lib.hid fun w4 b4 => here_any (H2.below b4) d hd
  have HST := Lib.hid H2
  have HBB := Lib.hid bb
  have HHB := Lib.hid hB
  have HXL := Lib.hid hXl
  obtain ⟨⟨⟨_, x0, x1, x2, x3⟩, y0, y1, y2, y3⟩, hz2⟩ : ((P w2 ∧ BoxX x w.heap.size w2) ∧ BoxC c (w.heap.size + 1) w2) ∧ w2.heap.size = w.heap.size + 2 := ⟨H2.out, by rw [← hw2]; simp [hz1]⟩
  rw [hcd] at y0
  rw [hca] at y1
  rw [hcd, hca] at hw2
  have HW1 := Lib.hid hw1
  have HW2 := Lib.hid hw2
  have lx : w.heap.size < w2.heap.size := by omega
  have ly : w.heap.size + 1 < w2.heap.size := by omega
  clear h H1 H2 b1 b2 bb hB hXl hz1 hw1 hw2
  unfold C.val Px.val
  unfold Px.val at HH
  rw [hcd, hca]
  cases hh : hereB ds aw d with
  | false =>
    rw [hh] at HH
    have HD : Hid (putD ds aw d a s = ds) := Lib.hid (by unfold putD; rw [hh]; rfl)
    clear hh
    have CH : Hid (∀ q : Ext w2, Calls Tryz.prog 21 #[.agg #[.slice x.ga x.gn x.gc, .int .i64 x.sc, .slice (some ⟨x.lb, 0, none⟩) x.n x.n, .slice (some ⟨x.ab, 0, none⟩) x.n x.n], .int .i64 (d : Int)] q.v fun e w' => e = .returned (.bool false) ∧ ∃ q' : Ext w2, w' = q'.v) := Lib.hid (Ext.calls HH.out)
    have g0 := fun q : Ext w2 => q.cell x0 lx
    have g1 := fun q : Ext w2 => q.cell x1 lx
    have g2 := fun q : Ext w2 => q.cell x2 lx
    have g3 := fun q : Ext w2 => q.cell x3 lx
    have g4 := fun q : Ext w2 => q.cell y0 ly
    go_enter Tryz.func14, Tryz.ntmps14
    go_wp2_with fail
    rw [HW1.out, HW2.out]
    haveI hne : Nonempty (Ext w2) := Ext.some w2
    refine wp_region_family (Ext.v (W := w2)) (by kernel_rfl) (by kernel_rfl) ⟨⟨_, (Below.refl _ w2).drew⟩, rfl⟩ ?_
    repeat (go_big_quiet_step (first | (go_at_call 21; exact CH.out _)))
    refine wpQuiet_nil ?_
    rintro w7 ⟨⟨w4, K4⟩, rfl⟩
    go_wp2
    go_ret
    refine ⟨rfl, ?_, (HBB.out.trans (K4.mono HBB.out.size)).mono HHB.out, fun k hk => ?_⟩
    · rw [HD.out]
      exact ((HST.out.below K4).mono fun w h => h.1.1).more (Nat.le_succ _)
    · exact (K4.block k (Nat.lt_of_lt_of_le (HXL.out k hk) HBB.out.size)).trans (HBB.out.block k (HXL.out k hk))
  | true =>
    rw [hh] at HH
    have HD : Hid (putD ds aw d a s = upd ds d ((ds d).put a s.data.toList)) := Lib.hid (by unfold putD; rw [hh]; rfl)
    have hl : (ds d).lost = false := by
      unfold hereB at hh
      simp at hh
      exact hh.2
    clear hh
    obtain ⟨b, cl, hW⟩ := wr_any HST.out hd hl a ha s hs hK
    have HWR := Lib.hid hW
    have ll := World.block_lt_of_cell? w2 _ cl
    clear hW hl
    have q1 : (0 : Int) ≤ (d : Int) := by omega
    have q2 : (d : Int) < (x.n : Int) := by omega
    have b0 : Below w2.heap.size w2 w2.drew := (Below.refl _ w2).drew
    go_enter Tryz.func14, Tryz.ntmps14
    go_wp2_with fail
    rw [HW1.out, HW2.out]
    go_region_held3 (fun W => W.cell? ⟨w.heap.size, 0, none⟩ = some (.slice x.ga x.gn x.gc) ∧ W.cell? ⟨w.heap.size, 1, none⟩ = some (.int .i64 x.sc) ∧ W.cell? ⟨w.heap.size, 2, none⟩ = some (.slice (some ⟨x.lb, 0, none⟩) x.n x.n) ∧ W.cell? ⟨w.heap.size, 3, none⟩ = some (.slice (some ⟨x.ab, 0, none⟩) x.n x.n) ∧ W.cell? ⟨w.heap.size + 1, 0, none⟩ = some (.int .i64 (d : Int)) ∧ W.cell? ⟨w.heap.size + 1, 1, none⟩ = some (.int .i64 (a : Int)) ∧ W.cell? ⟨x.lb, d, none⟩ = some (.pointer (some ⟨b, 0, none⟩)))
      (first | exact ⟨x0, x1, x2, x3, y0, y1, cl⟩ | exact ⟨k0, k1, k2, k3, k4, k5, k6⟩ | exact ⟨m0, m1, m2, m3, m4, m5, m6⟩)
      (first
        | (go_at_call 21; refine (HH.out _ b0).mono ?_; rintro e w4 ⟨rfl, b4⟩; have b5 : Below w2.heap.size w2 w4 := next b0 b4; have k0 := (b5.cell (p := ⟨w.heap.size, 0, none⟩) lx).trans x0; have k1 := (b5.cell (p := ⟨w.heap.size, 1, none⟩) lx).trans x1; have k2 := (b5.cell (p := ⟨w.heap.size, 2, none⟩) lx).trans x2; have k3 := (b5.cell (p := ⟨w.heap.size, 3, none⟩) lx).trans x3; have k4 := (b5.cell (p := ⟨w.heap.size + 1, 0, none⟩) ly).trans y0; have k5 := (b5.cell (p := ⟨w.heap.size + 1, 1, none⟩) ly).trans y1; have k6 := (b5.cell (p := ⟨x.lb, d, none⟩) ll).trans cl)
        | (go_at_call 34; refine (HWR.out w4 b5).mono ?_; rintro e w5 ⟨rfl, h5, b6, hlb, hX⟩; have ⟨⟨hp5, m0, m1, m2, m3⟩, m4', m5', _, _⟩ := h5.out; have m4 := m4'.trans (by rw [hcd]); have m5 := m5'.trans (by rw [hca]); have m6 := (World.cell?_of_block (w := w4) hlb).trans k6))
    go_wp2
    go_ret
    refine ⟨rfl, ?_, ?_, fun k hk => ?_⟩
    · rw [HD.out]
      exact h5.mono fun w h => h.1.1
    · exact ((HBB.out.trans (b5.mono HBB.out.size)).mono HHB.out).trans b6
    · exact ((hX k hk).trans (b5.block k (Nat.lt_of_lt_of_le (HXL.out k hk) HBB.out.size))).trans (HBB.out.block k (HXL.out k hk))
end
end Go.Proofs.YtlhnmcopioeboaaGreat

/- Columns compared: the document's Same; the example. -/
namespace Go.Proofs.YtlhnmcopioeboaaGreat
set_option maxRecDepth 100000
open Go.RowKit

/-- The slice v is the columns l. -/
def ColsV (w : World) (v : Value) (l : List C) : Prop :=
  ∃ a n c, v = .slice a n c ∧ l.length = n ∧ ∀ j (h : j < l.length), ∃ g, a = some ⟨g, 0, none⟩ ∧ g < w.heap.size ∧ IsC w g (j * 4) l[j]
theorem ColsV.next {w w' : World} {v : Value} {l : List C} (h : ColsV w v l) (k : Below w.heap.size w w') : ColsV w' v l := by
  obtain ⟨a, n, c, rfl, hn, hj⟩ := h
  refine ⟨a, n, c, rfl, hn, fun j h => ?_⟩
  obtain ⟨g, ha, hg, hc⟩ := hj j h
  exact ⟨g, ha, Nat.lt_of_lt_of_le hg k.size, hc.below hg k⟩
theorem OwnC.v {w : World} {B : Nat} {v : Value} {l : List C} (h : OwnC B w v l) : ColsV w v l := by
  by_cases hl : 0 < l.length
  · obtain ⟨g, c, rfl, hc, hB, hA⟩ := h.some hl
    exact ⟨_, _, _, rfl, rfl, fun j hj => ⟨g, rfl, hA.lt, hA.at_ j hj⟩⟩
  · obtain ⟨a, c, rfl⟩ := h.none
    exact ⟨_, _, _, rfl, rfl, fun j hj => absurd hj (by omega)⟩
theorem ColsV.some {w : World} {v : Value} {l : List C} (h : ColsV w v l) (hl : 0 < l.length) : ∃ g n c, v = .slice (some ⟨g, 0, none⟩) n c ∧ l.length = n ∧ g < w.heap.size ∧ ∀ j (h : j < l.length), IsC w g (j * 4) l[j] := by
  obtain ⟨a, n, c, rfl, hn, hj⟩ := h
  obtain ⟨g, rfl, hg, _⟩ := hj 0 hl
  refine ⟨g, n, c, rfl, hn, hg, fun j h => ?_⟩
  obtain ⟨g', e, _, hc⟩ := hj j h
  cases e
  exact hc
theorem ColsV.nil (w : World) : ColsV w (.slice none 0 0) [] := ⟨_, _, _, rfl, rfl, fun _ h => absurd h (Nat.not_lt_zero _)⟩
def C.same (a b : C) : Bool := (a.dev == b.dev) && (a.at_ == b.at_) && (a.par == b.par) && (a.row == b.row)
theorem C.same_iff {a b : C} : a.same b = true ↔ a = b := by
  cases a; cases b
  simp [C.same, and_assoc]

theorem C.cmp (x y : C) : x = y ∨ (x ≠ y ∧ ((x.dev == y.dev) = false ∨ ((x.dev == y.dev) = true ∧ (x.at_ == y.at_) = false) ∨ ((x.dev == y.dev) = true ∧ (x.at_ == y.at_) = true ∧ (x.par == y.par) = false) ∨
    ((x.dev == y.dev) = true ∧ (x.at_ == y.at_) = true ∧ (x.par == y.par) = true ∧ (x.row == y.row) = false))) := by
  by_cases h : x = y
  · exact .inl h
  · refine .inr ⟨h, ?_⟩
    by_cases h0 : x.dev = y.dev
    · by_cases h1 : x.at_ = y.at_
      · by_cases h2 : x.par = y.par
        · by_cases h3 : x.row = y.row
          · exact absurd (C.ext' h0 h1 h2 h3) h
          · exact .inr (.inr (.inr ⟨by simp [h0], by simp [h1], by simp [h2], by simp [h3]⟩))
        · exact .inr (.inr (.inl ⟨by simp [h0], by simp [h1], by rw [beq_eq_false_iff_ne]; exact h2⟩))
      · exact .inr (.inl ⟨by simp [h0], by simp [h1]⟩)
    · exact .inl (by simp [h0])

end Go.Proofs.YtlhnmcopioeboaaGreat

/- slices.DeleteFunc of columns: the parities are left out. -/
namespace Go.Proofs.YtlhnmcopioeboaaGreat
set_option maxRecDepth 100000
open Go.RowKit

theorem isPar (w : World) (x : C) : Calls Tryz.prog 53 #[.agg #[.int .i64 x.dev, .int .i64 x.at_, .bool x.par, .int .i64 x.row]] w fun e w' => e = .returned (.bool x.par) ∧ Below w.heap.size w w' := by
  go_enter Tryz.func53, Tryz.ntmps53
  go_wp2
  go_ret
  exact ⟨rfl, boxed _ _⟩

set_option maxHeartbeats 1000000 in
theorem index_none (w : World) (L : List C) (a : Option Addr) (n c : Nat) (hV : ColsV w (.slice a n c) L) (hn : n ≤ 100000) (hp : ∀ j (h : j < L.length), L[j].par = false) :
    Calls Tryz.prog 69 #[.slice a n c, .func (.func 53) #[] #[]] w fun e w' => e = .returned (.int .i64 (-1)) ∧ Below w.heap.size w w' := by
  have HV := Lib.hid hV
  have HP := Lib.hid hp
  clear hV hp
  have HN : Hid (L.length = n) := Lib.hid (by obtain ⟨_, _, _, e, h, _⟩ := HV.out; cases e; exact h)
  go_enter Tryz.func69, Tryz.ntmps69
  go_wp2_with fail
  go_loopw [8] (fun i wr => ∃ k : Nat, k ≤ n ∧ i = .int .i64 (k : Int) ∧ Hid (Below w.heap.size w wr)) (fun i _ => n - (intOf i).toNat)
  case atStart => exact ⟨0, Nat.zero_le _, rfl, Lib.hid (Below.refl _ _)⟩
  case round =>
    obtain ⟨k, hk, rfl, HW⟩ := hrel
    by_cases hkn : k < n
    · have hkl : k < L.length := by rw [HN.out]; exact hkn
      obtain ⟨g, m, c', e, _, hlt, hC⟩ := HV.out.some (by omega)
      cases e
      obtain ⟨x, hx⟩ : ∃ x, L[k] = x := ⟨_, rfl⟩
      have hpx := HP.out k hkl
      have hCk := (hC k hkl).below hlt HW.out
      rw [hx] at hpx hCk
      obtain ⟨e0, e1, e2, e3⟩ := hCk
      rw [hpx] at e2
      have HX := Lib.hid hpx
      clear hpx hx hC hkl
      have hI := Lib.hid (isPar wr x)
      go_wp2_with fail
      refine (by have := hI.out; rw [HX.out] at this; exact this : Calls Tryz.prog 53 #[.agg #[.int .i64 x.dev, .int .i64 x.at_, .bool false, .int .i64 x.row]] wr fun e w' => e = .returned (.bool false) ∧ Below wr.heap.size wr w').mono ?_
      rintro e w1 ⟨rfl, b1⟩
      go_wp2
      go_roundw
      case rel => exact ⟨k + 1, by omega, by go_num, Lib.hid (next HW.out b1)⟩
      case measure => simp [intOf]; omega
    · go_wp2
      go_ret
      exact ⟨rfl, HW.out⟩

set_option maxHeartbeats 1000000 in
theorem index_zero (w : World) (L : List C) (a : Option Addr) (n c : Nat) (hV : ColsV w (.slice a n c) L) (hn : n ≤ 100000) (h0 : 0 < L.length) (hp : L[0].par = true) :
    Calls Tryz.prog 69 #[.slice a n c, .func (.func 53) #[] #[]] w fun e w' => e = .returned (.int .i64 0) ∧ Below w.heap.size w w' := by
  obtain ⟨g, m, c', e, hm, hlt, hC⟩ := hV.some h0
  cases e
  obtain ⟨x, hx⟩ : ∃ x, L[0] = x := ⟨_, rfl⟩
  have hCk := hC 0 h0
  rw [hx] at hp hCk
  obtain ⟨e0, e1, e2, e3⟩ := hCk
  rw [hp] at e2
  simp only [Nat.zero_mul, Nat.zero_add] at e0 e1 e2 e3
  have hn0 : 0 < n := by omega
  have HX := Lib.hid hp
  have hI := Lib.hid (isPar w x)
  clear hC hV hp hx hm
  go_enter Tryz.func69, Tryz.ntmps69
  go_wp2_with fail
  refine wp_loop_rounds 1 ?_
  rw [rounds_succ]
  go_wp2_with fail
  refine (by have := hI.out; rw [HX.out] at this; exact this : Calls Tryz.prog 53 #[.agg #[.int .i64 x.dev, .int .i64 x.at_, .bool true, .int .i64 x.row]] w fun e w' => e = .returned (.bool true) ∧ Below w.heap.size w w').mono ?_
  rintro e w1 ⟨rfl, b1⟩
  go_wp2
  go_ret
  exact ⟨rfl, b1⟩
end Go.Proofs.YtlhnmcopioeboaaGreat

/- slices.DeleteFunc of columns, walked. -/
namespace Go.Proofs.YtlhnmcopioeboaaGreat
set_option maxRecDepth 100000
open Go.RowKit

theorem delete_none (w : World) (L : List C) (a : Option Addr) (n c : Nat) (hV : ColsV w (.slice a n c) L) (hn : n ≤ 100000) (hp : ∀ j (h : j < L.length), L[j].par = false) :
    Calls Tryz.prog 51 #[.slice a n c, .func (.func 53) #[] #[]] w fun e w' => e = .returned (.slice a n c) ∧ Below w.heap.size w w' := by
  have HI := Lib.hid (index_none w L a n c hV hn hp)
  clear hV hp
  go_enter Tryz.func51, Tryz.ntmps51
  go_wp2_with fail
  refine HI.out.mono ?_
  rintro e w1 ⟨rfl, b1⟩
  go_wp2
  go_ret
  exact ⟨rfl, b1⟩

/-- Block g is a row with room for c columns, of which the first are l. -/
structure RowC (w : World) (g c : Nat) (l : List C) : Prop where
  shape : ∃ cur : Array Value, w.heap[g]? = some (.cells cur 44 (0, 0)) ∧ cur.size = c * 4
  at_ : ∀ j (h : j < l.length), IsC w g (j * 4) l[j]
  le : l.length ≤ c
theorem RowC.lt {w : World} {g c : Nat} {l : List C} (h : RowC w g c l) : g < w.heap.size := by
  obtain ⟨cur, h1, _⟩ := h.shape
  exact (Array.getElem?_eq_some_iff.1 h1).1
theorem RowC.frozen {w : World} {g c : Nat} {l : List C} (h : RowC w g c l) (o : Nat) : w.frozen? ⟨g, o, none⟩ = false := by
  obtain ⟨cur, h1, _⟩ := h.shape
  simp [World.frozen?, h1]
theorem own_row {w : World} {B : Nat} {v : Value} {l : List C} (h : OwnC B w v l) (hl : 0 < l.length) : ∃ g c, v = .slice (some ⟨g, 0, none⟩) l.length c ∧ l.length ≤ c ∧ c ≤ maxLen ∧ B ≤ g ∧ RowC w g c l := by
  obtain ⟨g, c, rfl, hc, hB, hA⟩ := h.some hl
  rcases h.2 with ⟨h0, _⟩ | ⟨g', cap, cur, hv, hB', hb, hnc, hm, hs, _⟩
  · cases h0
  · cases hv
    exact ⟨g, c, rfl, hc, hm, hB, ⟨cur, hb, hs⟩, hA.at_, hc⟩
theorem RowC.next {w w' : World} {B g c : Nat} {l : List C} (h : RowC w g c l) (hg : g < B) (k : Below B w w') : RowC w' g c l := by
  obtain ⟨cur, h1, h2⟩ := h.shape
  exact ⟨⟨cur, by rw [k.block g hg]; exact h1, h2⟩, fun j hj => (h.at_ j hj).below hg k, h.le⟩

theorem RowC.shaped {w : World} {g c : Nat} (h : ∃ cur : Array Value, w.heap[g]? = some (.cells cur 44 (0, 0)) ∧ cur.size = c * 4) (a : Addr) (v : Value) : ∃ cur : Array Value, (w.setCell a v).heap[g]? = some (.cells cur 44 (0, 0)) ∧ cur.size = c * 4 := by
  obtain ⟨cur, h1, h2⟩ := h
  by_cases e : a.block = g
  · refine ⟨if a.spot.isSome then cur else cur.setIfInBounds a.off v, ?_, ?_⟩
    · simp only [World.setCell, Array.getElem?_modify, e, if_true, h1]
      simp
    · split <;> simp [h2]
  · exact ⟨cur, by rw [Below.heap_setCell _ _ _ _ (fun e' => e e'.symm)]; exact h1, h2⟩
theorem RowC.shapeds {g c : Nat} (b : Nat) : ∀ (vs : List Value) (o : Nat) (w : World), (∃ cur : Array Value, w.heap[g]? = some (.cells cur 44 (0, 0)) ∧ cur.size = c * 4) → ∃ cur : Array Value, (w.setCells b o vs).heap[g]? = some (.cells cur 44 (0, 0)) ∧ cur.size = c * 4
  | [], _, _, h => h
  | v :: r, o, _, h => RowC.shapeds b r (o + 1) _ (RowC.shaped h _ v)
theorem RowC.cell {w : World} {g c : Nat} {l : List C} (h : RowC w g c l) {o : Nat} (ho : o < c * 4) : (w.cell? ⟨g, o, none⟩).isSome = true := by
  obtain ⟨cur, h1, h2⟩ := h.shape
  simp [World.cell?, h1]
  omega
theorem RowC.set {w : World} {g c : Nat} {l : List C} (h : RowC w g c l) (i : Nat) (hi : i < l.length) (x : C) : RowC (w.setCells g (i * 4) (C.cells x)) g c (l.set i x) := by
  have hle := h.le
  refine ⟨RowC.shapeds _ _ _ _ h.shape, fun k hk => IsC.of fun j hj => ?_, by simpa using h.le⟩
  rw [List.length_set] at hk
  by_cases e : i = k
  · subst e
    rw [World.cell?_setCells_in g (C.cells x) (i * 4) w (fun j hj => h.cell (by have : j < 4 := hj; omega)) j hj, List.getElem?_eq_getElem (show j < (C.cells (l.set i x)[i]).length from hj)]
    congr 1
    simp
    rfl
  · rw [World.cell?_setCells_out g (C.cells x) (i * 4) w _ (fun _ _ => by show _ < _ ∨ _ + 4 ≤ _; dsimp only; omega), List.getElem_set_ne e]
    exact (h.at_ k hk).get j hj
theorem setCells_below {B g : Nat} (hB : B ≤ g) : ∀ (vs : List Value) (o : Nat) (w : World), Below B w (w.setCells g o vs)
  | [], _, _ => Below.refl _ _
  | v :: r, o, w => ((Below.refl B w).setCell (p := ⟨g, o, none⟩) hB v).trans (setCells_below hB r (o + 1) _)
abbrev zC : Value := .agg #[.int .i64 0, .int .i64 0, .bool false, .int .i64 0]
theorem zero_col (w : World) : (zeroValue 44).run Tryz.prog w = .ok zC w := by kernel_rfl
theorem zeros_one (n : Nat) : ∀ v ∈ (Builtin.zeroCells zC.cells n).toList, v.oneCell' = true := by
  intro v hv
  simp [Builtin.zeroCells, Value.cells] at hv
  obtain ⟨i, _, h⟩ := hv
  have h4 : i % 4 < 4 := Nat.mod_lt _ (by decide)
  generalize i % 4 = q at h h4
  match q, h4 with
  | 0, _ => simp at h; subst h; rfl
  | 1, _ => simp at h; subst h; rfl
  | 2, _ => simp at h; subst h; rfl
  | 3, _ => simp at h; subst h; rfl
/-- clear of a slice of columns. -/
theorem run_clear_col (w : World) (ty : TypeId) (b o n c : Nat) (hn : 0 < n) (hc : ∀ j, j < n * 4 → (w.cell? ⟨b, o + j, none⟩).isSome = true) (hf : ∀ j, w.frozen? ⟨b, o + j, none⟩ = false) :
    (Builtin.clear_ #[41] ty #[.slice (some ⟨b, o, none⟩) n c]).run Tryz.prog w = .ok (.tuple #[]) (w.setCells b o (Builtin.zeroCells zC.cells n).toList) := by
  have hlen : (Builtin.zeroCells zC.cells n).toList.length = n * 4 := by
    rw [Array.length_toList, size_zeroCells]; rfl
  have hst := run_storeCells_cells (P := Tryz.prog) b o (Builtin.zeroCells zC.cells n).toList 0 w (by rw [hlen]; simpa using hc) (fun j _ => by simpa using hf j) (zeros_one n)
  simp only [Nat.add_zero] at hst
  obtain ⟨m, rfl⟩ : ∃ m, n = m + 1 := ⟨n - 1, by omega⟩
  simp [Builtin.clear_, run_underlying Tryz.underlying41]
  rw [hst]
  rfl

theorem keep_step {L X : List C} {i j n : Nat} {x : C} (h1 : X.length = n) (h2 : X.take i = (L.take j).filter (fun x => !x.par)) (h3 : ∀ m, j ≤ m → X[m]? = L[m]?) (hij : i < j) (hj : j < n) (hx : X[j]? = some x) (hp : x.par = false) :
    (X.set i x).length = n ∧ (X.set i x).take (i + 1) = (L.take (j + 1)).filter (fun x => !x.par) ∧ ∀ m, j + 1 ≤ m → (X.set i x)[m]? = L[m]? := by
  refine ⟨by simpa using h1, ?_, fun m hm => ?_⟩
  · have hLj : L[j]? = some x := by rw [← h3 j (Nat.le_refl _)]; exact hx
    rw [List.take_add_one, List.take_set_of_le (Nat.le_refl _), List.getElem?_set_self (by omega), h2, List.take_add_one, hLj, List.filter_append]
    simp [hp]
  · rw [List.getElem?_set_ne (by omega)]
    exact h3 m (by omega)
theorem drop_step {L X : List C} {i j n : Nat} {x : C} (h2 : X.take i = (L.take j).filter (fun x => !x.par)) (h3 : ∀ m, j ≤ m → X[m]? = L[m]?) (hx : X[j]? = some x) (hp : x.par = true) (h1 : X.length = n) :
    X.length = n ∧ X.take i = (L.take (j + 1)).filter (fun x => !x.par) ∧ ∀ m, j + 1 ≤ m → X[m]? = L[m]? := by
  refine ⟨h1, ?_, fun m hm => h3 m (by omega)⟩
  have hLj : L[j]? = some x := by rw [← h3 j (Nat.le_refl _)]; exact hx
  rw [h2, List.take_add_one, hLj, List.filter_append]
  simp [hp]

set_option maxHeartbeats 1000000 in
theorem delete_some (w : World) (L : List C) (g n c : Nat) (hR : RowC w g c L) (hl : L.length = n) (hn : n ≤ 100000) (hc : c ≤ maxLen) (h0 : 0 < L.length) (hp : L[0].par = true) :
    Calls Tryz.prog 51 #[.slice (some ⟨g, 0, none⟩) n c, .func (.func 53) #[] #[]] w fun e w' => e = .returned (.slice (some ⟨g, 0, none⟩) (L.filter fun x => !x.par).length c) ∧ RowC w' g c (L.filter fun x => !x.par) ∧ ∀ B, B ≤ g → Below B w w' := by
  have HI := Lib.hid (index_zero w L (some ⟨g, 0, none⟩) n c ⟨_, _, _, rfl, hl, fun j h => ⟨g, rfl, hR.lt, hR.at_ j h⟩⟩ hn h0 hp)
  have HR := Lib.hid hR
  have HL := Lib.hid hl
  unfold maxLen at hc
  have hnc : n ≤ c := by rw [← hl]; exact hR.le
  have HP0 : Hid (∃ x, L[0]? = some x ∧ x.par = true) := Lib.hid ⟨_, List.getElem?_eq_getElem h0, hp⟩
  clear hR hl hp
  go_enter Tryz.func51, Tryz.ntmps51
  go_wp2_with fail
  refine HI.out.mono ?_
  rintro e w1 ⟨rfl, b1⟩
  have HR1 := Lib.hid (HR.out.next HR.out.lt b1)
  have hn0 : 0 < n := by rw [← HL.out]; exact h0
  go_wp2_with fail
  go_loopw [5, 6] (fun i5 i6 wr => ∃ (i j : Nat) (X : List C), i < j ∧ j ≤ n ∧ i5 = .int .i64 (i : Int) ∧ i6 = .int .i64 (j : Int) ∧ Hid (X.length = n ∧ X.take i = (L.take j).filter (fun x => !x.par) ∧ ∀ m, j ≤ m → X[m]? = L[m]?) ∧ Hid (RowC wr g c X) ∧ Hid (∀ B, B ≤ g → Below B w wr)) (fun _ j _ => n - (intOf j).toNat)
  case atStart =>
    refine ⟨0, 1, L, by omega, hn0, rfl, rfl, Lib.hid ⟨HL.out, ?_, fun _ _ => rfl⟩, HR1, Lib.hid fun B hB => b1.mono (by have := HR.out.lt; omega)⟩
    obtain ⟨x, h1, h2⟩ := HP0.out
    rw [List.take_zero, List.take_add_one, h1]
    simp [h2]
  case round =>
    obtain ⟨i, j, X, hij, hjn, rfl, rfl, HX, HRX, HB⟩ := hrel
    by_cases hjl : j < n
    · obtain ⟨x, hx⟩ : ∃ x, X[j]'(by rw [HX.out.1]; exact hjl) = x := ⟨_, rfl⟩
      have hCx := HRX.out.at_ j (by rw [HX.out.1]; exact hjl)
      have hXi := HRX.out.at_ i (by rw [HX.out.1]; omega)
      rw [hx] at hCx
      obtain ⟨e0, e1, e2, e3⟩ := hCx
      obtain ⟨y, hy⟩ : ∃ y, X[i]'(by rw [HX.out.1]; omega) = y := ⟨_, rfl⟩
      rw [hy] at hXi
      have f0 := HRX.out.frozen (i * 4)
      have f1 := HRX.out.frozen (i * 4 + 1)
      have f2 := HRX.out.frozen (i * 4 + 2)
      have f3 := HRX.out.frozen (i * 4 + 3)
      obtain ⟨y0, y1, y2, y3⟩ := hXi
      have HXJ : Hid (∃ h : j < X.length, X[j] = x) := Lib.hid ⟨_, hx⟩
      clear hx hy
      have hlt := HRX.out.lt
      cases hpx : x.par with
      | true =>
        rw [hpx] at e2
        have HPX := Lib.hid hpx
        clear hpx
        have hI := Lib.hid (isPar (wr.alloc (.cells #[.int .i64 x.dev, .int .i64 x.at_, .bool true, .int .i64 x.row] 44)) x)
        go_wp2_with fail
        refine (by have := hI.out; rw [HPX.out] at this; exact this : Calls Tryz.prog 53 #[.agg #[.int .i64 x.dev, .int .i64 x.at_, .bool true, .int .i64 x.row]] (wr.alloc (.cells #[.int .i64 x.dev, .int .i64 x.at_, .bool true, .int .i64 x.row] 44)) fun e w' => e = .returned (.bool true) ∧ Below (wr.alloc (.cells #[.int .i64 x.dev, .int .i64 x.at_, .bool true, .int .i64 x.row] 44)).heap.size (wr.alloc (.cells #[.int .i64 x.dev, .int .i64 x.at_, .bool true, .int .i64 x.row] 44)) w').mono ?_
        rintro e w2 ⟨rfl, b2⟩
        have BB := Lib.hid (next (boxed _ _) b2)
        clear e0 e1 e2 e3 y0 y1 y2 y3 f0 f1 f2 f3 b2
        go_wp2
        go_roundw
        case rel =>
          refine ⟨i, j + 1, X, by omega, by omega, rfl, by go_num, Lib.hid ?_, Lib.hid (HRX.out.next HRX.out.lt BB.out), Lib.hid fun B hB => (HB.out B hB).trans (BB.out.mono (by omega))⟩
          obtain ⟨h1, h2, h3⟩ := HX.out
          obtain ⟨hh, e⟩ := HXJ.out
          exact drop_step h2 h3 (by rw [List.getElem?_eq_getElem hh, e]) HPX.out h1
        case measure => simp [intOf]; omega
      | false =>
        rw [hpx] at e2
        have HPX := Lib.hid hpx
        clear hpx
        have hI := Lib.hid (isPar (wr.alloc (.cells #[.int .i64 x.dev, .int .i64 x.at_, .bool false, .int .i64 x.row] 44)) x)
        go_wp2_with fail
        refine (by have := hI.out; rw [HPX.out] at this; exact this : Calls Tryz.prog 53 #[.agg #[.int .i64 x.dev, .int .i64 x.at_, .bool false, .int .i64 x.row]] (wr.alloc (.cells #[.int .i64 x.dev, .int .i64 x.at_, .bool false, .int .i64 x.row] 44)) fun e w' => e = .returned (.bool false) ∧ Below (wr.alloc (.cells #[.int .i64 x.dev, .int .i64 x.at_, .bool false, .int .i64 x.row] 44)).heap.size (wr.alloc (.cells #[.int .i64 x.dev, .int .i64 x.at_, .bool false, .int .i64 x.row] 44)) w').mono ?_
        rintro e w2 ⟨rfl, b2⟩
        have hv : IsC w2 wr.heap.size 0 x := by
          refine IsC.below (w := wr.alloc (.cells #[.int .i64 x.dev, .int .i64 x.at_, .bool false, .int .i64 x.row] 44)) ⟨by simp, by simp, by simp [HPX.out], by simp⟩ (by simp) b2
        obtain ⟨v0, v1, v2, v3⟩ := hv
        rw [HPX.out] at v2
        have bb := next (boxed _ _) b2
        have r0 := (bb.cell (p := ⟨g, i * 4, none⟩) hlt).trans y0
        have r1 := (bb.cell (p := ⟨g, i * 4 + 1, none⟩) hlt).trans y1
        have r2 := (bb.cell (p := ⟨g, i * 4 + 2, none⟩) hlt).trans y2
        have r3 := (bb.cell (p := ⟨g, i * 4 + 3, none⟩) hlt).trans y3
        have z0 := (bb.frozen (p := ⟨g, i * 4, none⟩) hlt).trans f0
        have z1 := (bb.frozen (p := ⟨g, i * 4 + 1, none⟩) hlt).trans f1
        have z2 := (bb.frozen (p := ⟨g, i * 4 + 2, none⟩) hlt).trans f2
        have z3 := (bb.frozen (p := ⟨g, i * 4 + 3, none⟩) hlt).trans f3
        have BB := Lib.hid bb
        clear e0 e1 e2 e3 y0 y1 y2 y3 f0 f1 f2 f3 b2 bb
        go_wp2
        go_roundw
        case rel =>
          have hset := (HRX.out.next HRX.out.lt BB.out).set i (by rw [HX.out.1]; omega) x
          have ew : w2.setCells g (i * 4) (C.cells x) = (((w2.setCell ⟨g, i * 4, none⟩ (.int .i64 x.dev)).setCell ⟨g, i * 4 + 1, none⟩ (.int .i64 x.at_)).setCell ⟨g, i * 4 + 2, none⟩ (.bool false)).setCell ⟨g, i * 4 + 3, none⟩ (.int .i64 x.row) := by rw [← HPX.out]; rfl
          have hbel := fun B (hB : B ≤ g) => setCells_below hB (C.cells x) (i * 4) w2
          rw [ew] at hset hbel
          refine ⟨i + 1, j + 1, X.set i x, by omega, by omega, by go_num, by go_num, Lib.hid ?_, Lib.hid hset, Lib.hid fun B hB => ((HB.out B hB).trans (BB.out.mono (by omega))).trans (hbel B hB)⟩
          obtain ⟨h1, h2, h3⟩ := HX.out
          obtain ⟨hh, e⟩ := HXJ.out
          exact keep_step h1 h2 h3 hij hjl (by rw [List.getElem?_eq_getElem hh, e]) HPX.out
        case measure => simp [intOf]; omega
    · obtain rfl : j = n := by omega
      have hin : i < j := hij
      have hic : i < c := by omega
      have hci : ¬ c = i := by omega
      obtain ⟨zs, hcl⟩ : ∃ zs : List Value, ∀ ty, (Builtin.clear_ #[41] ty #[.slice (some ⟨g, i * 4, none⟩) (j - i) (c - i)]).run Tryz.prog wr = .ok (.tuple #[]) (wr.setCells g (i * 4) zs) := ⟨_, fun ty => run_clear_col wr ty g (i * 4) (j - i) (c - i) (by omega) (fun m hm => HRX.out.cell (by have := HX.out.1; have := HRX.out.le; omega)) (fun m => HRX.out.frozen _)⟩
      have q0 : (j : Int) - i = ((j - i : Nat) : Int) := by omega
      go_wp2
      go_ret
      obtain ⟨h1, h2, h3⟩ := HX.out
      have e : L.filter (fun x => !x.par) = X.take i := by rw [h2, ← HL.out, List.take_length]
      have hlen : (X.take i).length = i := by rw [List.length_take]; omega
      rw [e, hlen]
      refine ⟨rfl, ⟨RowC.shapeds _ _ _ _ HRX.out.shape, fun m hm => IsC.of fun q hq => ?_, by rw [hlen]; omega⟩, fun B hB => (HB.out B hB).trans (setCells_below hB _ _ _)⟩
      rw [hlen] at hm
      rw [World.cell?_setCells_out g zs (i * 4) wr _ (fun _ _ => by dsimp only; omega), List.getElem_take]
      exact (HRX.out.at_ m (by omega)).get q hq
end Go.Proofs.YtlhnmcopioeboaaGreat

/- A block's columns: where they are. -/
namespace Go.Proofs.YtlhnmcopioeboaaGreat
set_option maxRecDepth 100000
open Go.RowKit

theorem mirL_get (f t : Int) (z : Nat) (hz : 0 < z) : ∀ (u j : Nat) (h : j < (mirL f t u z).length), (mirL f t u z)[j] = ⟨f + (j / z : Nat), 16 + t + (j % z : Nat), false, (j % z : Nat)⟩ := by
  intro u
  induction u with
  | zero => intro j h; simp [mirL] at h
  | succ u ih =>
    intro j h
    have hl := mirL_len f t u z
    have hl2 : (mirL f t (u + 1) z).length = u * z + z := by rw [mirL_len, Nat.add_mul, Nat.one_mul]
    have e : (mirL f t (u + 1) z)[j] = (mirL f t u z ++ mirRow f t u z)[j]'(by rw [← mirL_succ]; exact h) := by congr 1; exact mirL_succ f t u z
    rw [e]
    by_cases hj : j < (mirL f t u z).length
    · rw [List.getElem_append_left hj]; exact ih j hj
    · rw [List.getElem_append_right (by omega)]
      have h1 : j - (mirL f t u z).length < z := by omega
      obtain ⟨i, hi⟩ : ∃ i, j = u * z + i := ⟨j - u * z, by omega⟩
      have hiz : i < z := by omega
      have hd : j / z = u := by rw [hi, Nat.mul_comm, Nat.mul_add_div hz, Nat.div_eq_of_lt hiz, Nat.add_zero]
      have hm : j % z = i := by rw [hi, Nat.mul_comm, Nat.mul_add_mod, Nat.mod_eq_of_lt hiz]
      rw [hd, hm]
      have h2 : j - (mirL f t u z).length = i := by omega
      simp [mirRow, h2]
theorem parTo_get (f : Int) (t u : Nat) : ∀ (z j : Nat) (h : j < (parTo f t u z).length), ∃ r p, (parTo f t u z)[j] = colP f u (t + j) r p := by
  intro z
  induction z with
  | zero => intro j h; simp [parTo] at h
  | succ k ih =>
    intro j h
    have key : ∀ (L : List C) (e : parTo f t u (k + 1) = L) (hj : j < L.length), (∃ r p, L[j] = colP f u (t + j) r p) → ∃ r p, (parTo f t u (k + 1))[j] = colP f u (t + j) r p := by
      intro L e hj hx
      obtain ⟨r, p, hx⟩ := hx
      exact ⟨r, p, by rw [← hx]; congr 1⟩
    by_cases hm : k % (u - 1) = 0
    · have e : parTo f t u (k + 1) = parTo f t u k ++ [colP f u (t + (parTo f t u k).length) (k / (u - 1)) true] ++ [colP f u (t + (parTo f t u k).length + 1) (k / (u - 1)) false] := by rw [parTo, if_pos hm]
      have hl := congrArg List.length e
      simp at hl
      refine key _ e (by simp; omega) ?_
      by_cases h1 : j < (parTo f t u k).length
      · obtain ⟨r, p, hx⟩ := ih j h1
        exact ⟨r, p, by rw [List.getElem_append_left (by rw [List.length_append]; omega), List.getElem_append_left h1]; exact hx⟩
      · by_cases h2 : j = (parTo f t u k).length
        · subst h2; exact ⟨k / (u - 1), true, by simp⟩
        · have h3 : j = (parTo f t u k).length + 1 := by omega
          subst h3; exact ⟨k / (u - 1), false, by simp [Nat.add_assoc]⟩
    · have e : parTo f t u (k + 1) = parTo f t u k ++ [colP f u (t + (parTo f t u k).length) (k / (u - 1)) false] := by rw [parTo, if_neg hm]
      have hl := congrArg List.length e
      simp at hl
      refine key _ e (by simp; omega) ?_
      by_cases h1 : j < (parTo f t u k).length
      · obtain ⟨r, p, hx⟩ := ih j h1
        exact ⟨r, p, by rw [List.getElem_append_left h1]; exact hx⟩
      · have h2 : j = (parTo f t u k).length := by omega
        subst h2; exact ⟨k / (u - 1), false, by simp⟩
theorem parTo_len0 (f : Int) (t u z : Nat) : (parTo f t u z).length = (parTo 0 0 u z).length := by
  induction z with
  | zero => rfl
  | succ k ih => simp only [parTo]; split <;> simp [ih]
theorem par_fits : ∀ u : Nat, u < 9 → 3 ≤ u → ∀ z : Nat, z < 5 → 1 ≤ z → (z : Int) < (parTo 0 0 u z).length ∧ ((parTo 0 0 u z).length : Int) ≤ takesG (1, (u : Int)) z ∧ (parTo 0 0 u z).length ≤ 6 := by decide

/-- Where a column is: of a Mirror its sector, of a Parity the group's sector. -/
def posC (f : Int) (x : Int × Int) (c : C) : Int := if x.1 = 0 then c.at_ - 16 else (c.at_ - 16) * x.2 + (c.dev - f)
theorem colP_pos (f : Int) (u y r : Nat) (p : Bool) (hu : 0 < u) : posC f (1, (u : Int)) (colP f u y r p) = y ∧ f ≤ (colP f u y r p).dev ∧ (colP f u y r p).dev < f + u ∧ 16 ≤ (colP f u y r p).at_ := by
  have h1 := Nat.mod_lt y hu
  have h2 := Nat.div_add_mod y u
  refine ⟨?_, ?_, ?_, ?_⟩
  · unfold posC colP
    simp only [Int.one_ne_zero, if_false]
    have h3 : ((y / u : Nat) : Int) * (u : Int) + ((y % u : Nat) : Int) = y := by
      have h4 : u * (y / u) + y % u = y := h2
      have h5 : ((u * (y / u) + y % u : Nat) : Int) = (y : Int) := by rw [h4]
      rw [Int.natCast_add, Int.natCast_mul, Int.mul_comm] at h5
      exact h5
    have e1 : 16 + ((y / u : Nat) : Int) - 16 = ((y / u : Nat) : Int) := by omega
    have e2 : f + ((y % u : Nat) : Int) - f = ((y % u : Nat) : Int) := by omega
    rw [e1, e2]
    exact h3
  · show f ≤ f + ((y % u : Nat) : Int); omega
  · show f + ((y % u : Nat) : Int) < f + u; omega
  · show 16 ≤ 16 + ((y / u : Nat) : Int); have := Int.natCast_nonneg (y / u); omega

/-- What is known of a block's columns. -/
structure Laid (f : Int) (x : Int × Int) (s : Int) (t z : Nat) (L : List C) : Prop where
  pos : 0 < L.length
  few : L.length ≤ 32
  dev0 : ∀ j (h : j < L.length), f ≤ L[j].dev
  dev1 : ∀ j (h : j < L.length), L[j].dev < f + x.2
  at0 : ∀ j (h : j < L.length), 16 ≤ L[j].at_
  at1 : ∀ j (h : j < L.length), L[j].at_ < s
  pos0 : ∀ j (h : j < L.length), t ≤ posC f x L[j]
  pos1 : ∀ j (h : j < L.length), posC f x L[j] < t + takesG x z
  apart : ∀ i j (hi : i < L.length) (hj : j < L.length), i < j → ¬ (L[j].dev = L[i].dev ∧ L[j].at_ = L[i].at_)
theorem laid (f : Int) (kk : Int) (u : Nat) (s : Int) (t z : Nat) (hok : okG (kk, (u : Int)) = true) (z1 : 1 ≤ z) (z4 : z ≤ 4) (fit : (t : Int) + takesG (kk, (u : Int)) z ≤ gives (kk, (u : Int)) s) :
    Laid f (kk, (u : Int)) s t z (colsG f (kk, (u : Int)) t z) := by
  rcases okG_cases hok with ⟨rfl, u1, u8⟩ | ⟨rfl, u1, u8⟩
  · have e : colsG f (0, (u : Int)) t z = mirL f t u z := by unfold colsG; rw [if_pos rfl]; simp
    rw [e]
    have hl := mirL_len f t u z
    have hzp : 0 < z := by omega
    have hg := mirL_get f t z hzp u
    have hmod := fun j => Nat.mod_lt j hzp
    have hdiv : ∀ j, j < (mirL f t u z).length → j / z < u := fun j hj => by rw [Nat.div_lt_iff_lt_mul hzp]; omega
    have f1 : (t : Int) + z ≤ s - 16 := by simpa [takesG, gives] using fit
    have h1 : 1 * 1 ≤ u * z := Nat.mul_le_mul (by omega) z1
    have h2 : u * z ≤ 8 * 4 := Nat.mul_le_mul (by omega) z4
    refine ⟨by omega, by omega, fun j h => ?_, fun j h => ?_, fun j h => ?_, fun j h => ?_, fun j h => ?_, fun j h => ?_, fun i j hi hj hij => ?_⟩
    · rw [hg j h]; show f ≤ f + ((j / z : Nat) : Int); have := Int.natCast_nonneg (j / z); omega
    · rw [hg j h]; show f + ((j / z : Nat) : Int) < f + u; have := hdiv j h; omega
    · rw [hg j h]; show 16 ≤ 16 + (t : Int) + ((j % z : Nat) : Int); omega
    · rw [hg j h]; show 16 + (t : Int) + ((j % z : Nat) : Int) < s; have := hmod j; omega
    · rw [hg j h]; show (t : Int) ≤ 16 + (t : Int) + ((j % z : Nat) : Int) - 16; omega
    · rw [hg j h]; show 16 + (t : Int) + ((j % z : Nat) : Int) - 16 < t + (z : Int); have := hmod j; omega
    · rw [hg j hj, hg i hi]
      rintro ⟨e1, e2⟩
      have e1' : f + ((j / z : Nat) : Int) = f + ((i / z : Nat) : Int) := e1
      have e2' : 16 + (t : Int) + ((j % z : Nat) : Int) = 16 + (t : Int) + ((i % z : Nat) : Int) := e2
      have e3 : j / z = i / z := by omega
      have e4 : j % z = i % z := by omega
      have := Nat.div_add_mod j z
      have := Nat.div_add_mod i z
      rw [e3, e4] at *
      omega
  · have e : colsG f (1, (u : Int)) t z = parTo f t u z := by unfold colsG; rw [if_neg Int.one_ne_zero]; simp
    rw [e]
    have hup : 0 < u := by omega
    obtain ⟨p1, p2, p3⟩ := par_fits u (by omega) (by omega) z (by omega) z1
    have hl := parTo_len0 f t u z
    rw [← hl] at p1 p2 p3
    have f1 : (t : Int) + takesG (1, (u : Int)) z ≤ (s - 16) * u := by simpa [gives] using fit
    have hp : ∀ j (h : j < (parTo f t u z).length), posC f (1, (u : Int)) (parTo f t u z)[j] = (t : Int) + j ∧ f ≤ (parTo f t u z)[j].dev ∧ (parTo f t u z)[j].dev < f + u ∧ 16 ≤ (parTo f t u z)[j].at_ := fun j h => by
      obtain ⟨r, p, e⟩ := parTo_get f t u z j h
      rw [e]
      have := colP_pos f u (t + j) r p hup
      rw [Int.natCast_add] at this
      exact this
    refine ⟨by omega, by omega, fun j h => (hp j h).2.1, fun j h => (hp j h).2.2.1, fun j h => (hp j h).2.2.2, fun j h => ?_, fun j h => ?_, fun j h => ?_, fun i j hi hj hij => ?_⟩
    · obtain ⟨h1, h2, h3, h4⟩ := hp j h
      rcases ltge (parTo f t u z)[j].at_ s with h5 | h5
      · exact h5
      · have h6 : (s - 16) * u ≤ ((parTo f t u z)[j].at_ - 16) * u := Int.mul_le_mul_of_nonneg_right (by omega) (by omega)
        unfold posC at h1
        simp only [Int.one_ne_zero, if_false] at h1
        omega
    · rw [(hp j h).1]; omega
    · rw [(hp j h).1]; omega
    · rintro ⟨e1, e2⟩
      have h1 := (hp i hi).1
      have h2 := (hp j hj).1
      unfold posC at h1 h2
      rw [e1, e2] at h2
      omega
theorem Blk.laid {l : List (Int × Int)} {s : Int} {k t z : Nat} (h : Blk l s k t z) : Laid (aheadL l k) (l[k]'h.hk) s t z (colsOf l k t z) := by
  have hk := h.hk
  obtain ⟨kk, u, hlk, hok⟩ : ∃ kk u, l[k] = (kk, u) ∧ okG (kk, u) = true := ⟨l[k].1, l[k].2, rfl, h.right.all k hk⟩
  obtain ⟨u0, rfl⟩ := Int.eq_ofNat_of_zero_le (show 0 ≤ u by have := okG_wide hok; omega)
  have hf := h.fit
  unfold colsOf
  rw [getD_at hk, hlk]
  rw [hlk] at hf
  exact Proofs.YtlhnmcopioeboaaGreat.laid _ _ _ _ _ _ hok h.z1 h.z4 hf
theorem aheadL_next {l : List (Int × Int)} {s : Int} (hr : RightM l s) {k m : Nat} (hk : k < l.length) (hkm : k < m) (hm : m ≤ l.length) : aheadL l k + l[k].2 ≤ aheadL l m := by
  rw [← aheadL_succ l k hk]
  exact hr.mono hkm hm
theorem Blk.dev {l : List (Int × Int)} {s : Int} {k t z : Nat} (h : Blk l s k t z) (j : Nat) (hj : j < (colsOf l k t z).length) : 0 ≤ (colsOf l k t z)[j].dev ∧ (colsOf l k t z)[j].dev < devsL l s := by
  have h1 := h.laid.dev0 j hj
  have h2 := h.laid.dev1 j hj
  have h3 := (h.right.bounds k (Nat.le_of_lt h.hk)).1
  have h4 := aheadL_next h.right h.hk h.hk (Nat.le_refl _)
  have h5 : devsL l s = aheadL l l.length := by unfold devsL; rw [rightM_iff.2 h.right, if_pos rfl]
  omega
theorem blk_apart {l : List (Int × Int)} {s : Int} {k t z k' t' z' : Nat} (h : Blk l s k t z) (h' : Blk l s k' t' z')
    (ha : k ≠ k' ∨ (t : Int) + takesG (l[k]'h.hk) z ≤ t' ∨ (t' : Int) + takesG (l[k']'h'.hk) z' ≤ t) (i j : Nat) (hi : i < (colsOf l k t z).length) (hj : j < (colsOf l k' t' z').length) :
    ¬ ((colsOf l k t z)[i].dev = (colsOf l k' t' z')[j].dev ∧ (colsOf l k t z)[i].at_ = (colsOf l k' t' z')[j].at_) := by
  rintro ⟨e1, e2⟩
  have a0 := h.laid.dev0 i hi
  have a1 := h.laid.dev1 i hi
  have b0 := h'.laid.dev0 j hj
  have b1 := h'.laid.dev1 j hj
  by_cases e : k = k'
  · subst e
    have p0 := h.laid.pos0 i hi
    have p1 := h.laid.pos1 i hi
    have q0 := h'.laid.pos0 j hj
    have q1 := h'.laid.pos1 j hj
    have e3 : posC (aheadL l k) (l[k]'h.hk) (colsOf l k t z)[i] = posC (aheadL l k) (l[k]'h.hk) (colsOf l k t' z')[j] := by unfold posC; rw [e1, e2]
    rw [e3] at p0 p1
    rcases ha with ha | ha | ha
    · exact ha rfl
    · omega
    · omega
  · rcases Nat.lt_or_ge k k' with hlt | hge
    · have := aheadL_next h.right h.hk hlt (Nat.le_of_lt h'.hk)
      omega
    · have := aheadL_next h.right h'.hk (show k' < k by omega) (Nat.le_of_lt h.hk)
      omega
end Go.Proofs.YtlhnmcopioeboaaGreat

/- cols.Data, cols.Rows: what they answer. -/
namespace Go.Proofs.YtlhnmcopioeboaaGreat
set_option maxRecDepth 100000
open Go.RowKit

def datL (L : List C) : List C := L.filter fun x => !x.par
/-- Of the first k columns those that hold sector i of a block of z. -/
def heldTo (M : List C) (z : Nat) (i : Int) : Nat → List C
  | 0 => []
  | k + 1 => if ((k % z : Nat) : Int) = i then heldTo M z i k ++ M[k]?.toList else heldTo M z i k
theorem heldTo_len (M : List C) (z : Nat) (i : Int) (k : Nat) : (heldTo M z i k).length ≤ k := by
  induction k with
  | zero => exact Nat.le_refl _
  | succ k ih =>
    unfold heldTo
    split
    · rw [List.length_append]
      have : M[k]?.toList.length ≤ 1 := by cases M[k]? <;> simp
      omega
    · omega
theorem heldTo_yes {M : List C} {z : Nat} {i : Int} {k : Nat} {x : C} (h : ((k % z : Nat) : Int) = i) (hx : ∃ hk : k < M.length, M[k] = x) : heldTo M z i (k + 1) = heldTo M z i k ++ [x] := by
  obtain ⟨hk, rfl⟩ := hx
  rw [heldTo, if_pos h, List.getElem?_eq_getElem hk]
  rfl
theorem heldTo_no {M : List C} {z : Nat} {i : Int} {k : Nat} (h : ¬ ((k % z : Nat) : Int) = i) : heldTo M z i (k + 1) = heldTo M z i k := by
  rw [heldTo, if_neg h]

/-- Either no parity is among the columns, or the first one is one. -/
def Heads (L : List C) : Prop := (∀ j (h : j < L.length), L[j].par = false) ∨ ∃ h : 0 < L.length, L[0].par = true
theorem delete_any (w : World) (B : Nat) (v : Value) (L : List C) (ho : OwnC B w v L) (hB : B ≤ w.heap.size) (hn : L.length ≤ 100000) (hh : Heads L) :
    Calls Tryz.prog 51 #[v, .func (.func 53) #[] #[]] w fun e w' => ∃ v', e = .returned v' ∧ ColsV w' v' (datL L) ∧ Below B w w' := by
  rcases hh with hh | ⟨h0, hp⟩
  · obtain ⟨a, c, rfl⟩ := ho.none
    refine (delete_none w L a L.length c ho.v hn hh).mono fun e w' ⟨h1, h2⟩ => ⟨_, h1, ?_, h2.mono hB⟩
    have e : datL L = L := List.filter_eq_self.2 fun x hx => by
      obtain ⟨j, hj, rfl⟩ := List.getElem_of_mem hx
      simp [hh j hj]
    rw [e]
    exact ho.v.next h2
  · obtain ⟨g, c, rfl, hc, hm, hg, hR⟩ := own_row ho h0
    exact (delete_some w L g L.length c hR rfl hn hm h0 hp).mono fun e w' ⟨h1, h2, h3⟩ => ⟨_, h1, ⟨_, _, _, rfl, rfl, fun j hj => ⟨g, rfl, h2.lt, h2.at_ j hj⟩⟩, h3 B hg⟩
theorem heads_mir (f t : Int) (u z : Nat) (hz : 0 < z) : Heads (mirL f t u z) := .inl fun j h => by rw [mirL_get f t z hz u j h]
theorem parTo_head (f : Int) (t u z : Nat) : ∃ h : 0 < (parTo f t u (z + 1)).length, (parTo f t u (z + 1))[0].par = true := by
  induction z with
  | zero => simp [parTo, colP]
  | succ z ih =>
    obtain ⟨h, hp⟩ := ih
    have key : ∀ M, parTo f t u (z + 2) = parTo f t u (z + 1) ++ M → ∃ h : 0 < (parTo f t u (z + 2)).length, (parTo f t u (z + 2))[0].par = true := by
      intro M e
      have h' : 0 < (parTo f t u (z + 2)).length := by rw [e, List.length_append]; omega
      refine ⟨h', ?_⟩
      have e2 : (parTo f t u (z + 2))[0]? = (parTo f t u (z + 1))[0]? := by rw [e, List.getElem?_append_left h]
      rw [List.getElem?_eq_getElem h', List.getElem?_eq_getElem h] at e2
      rw [Option.some.inj e2]
      exact hp
    by_cases hm : (z + 1) % (u - 1) = 0
    · exact key _ (by rw [parTo, if_pos hm, List.append_assoc])
    · exact key _ (by rw [parTo, if_neg hm])
theorem Blk.heads {l : List (Int × Int)} {s : Int} {k t z : Nat} (h : Blk l s k t z) : Heads (colsOf l k t z) := by
  unfold colsOf colsG
  have hz := h.z1
  split
  · exact heads_mir _ _ _ _ (by omega)
  · obtain ⟨z', rfl⟩ : ∃ z', z = z' + 1 := ⟨z - 1, by omega⟩
    exact .inr (parTo_head _ _ _ _)

/-- The columns that hold sector i of a block. -/
def dataOf (l : List (Int × Int)) (k t z : Nat) (i : Int) : List C := heldTo (datL (colsOf l k t z)) z i (datL (colsOf l k t z)).length
theorem rows_nil (w : World) : Calls Tryz.prog 17 #[.slice none 0 0] w fun e w' => e = .returned (.int .i64 0) ∧ Below w.heap.size w w' := by
  go_enter Tryz.func17, Tryz.ntmps17
  go_wp2
  go_ret
  exact ⟨rfl, Below.refl _ _⟩
set_option maxHeartbeats 1000000 in
theorem rows_any (w : World) (L : List C) (g n c : Nat) (hg : g < w.heap.size) (hl : L.length = n) (hn : n ≤ 100000) (hC : ∀ j (h : j < L.length), IsC w g (j * 4) L[j]) (R : Nat) (hR : R ≤ 1000) (hr : ∀ j (h : j < L.length), 0 ≤ L[j].row ∧ L[j].row < R) (hm : ∃ j, ∃ h : j < L.length, L[j].row = (R : Int) - 1) :
    Calls Tryz.prog 17 #[.slice (some ⟨g, 0, none⟩) n c] w fun e w' => e = .returned (.int .i64 (R : Int)) ∧ Below w.heap.size w w' := by
  obtain ⟨jm, hjm, hjr⟩ := hm
  have hn0 : 0 < n := by omega
  have hnz : ((n : Int) == 0) = false := by simp; omega
  have k3 := (hC 0 (by omega)).c3
  obtain ⟨r0, hr0⟩ : ∃ r, (L[0]'(by omega)).row = r := ⟨_, rfl⟩
  have hrb := hr 0 (by omega)
  rw [hr0] at k3 hrb
  obtain ⟨rb0, rb1⟩ := hrb
  simp only [Nat.zero_mul, Nat.zero_add] at k3
  have HC := Lib.hid hC
  have HL := Lib.hid hl
  have HRR := Lib.hid hr
  have HJ : Hid (∃ h : jm < L.length, L[jm].row = (R : Int) - 1) := Lib.hid ⟨hjm, hjr⟩
  have HR0 : Hid (∃ h : 0 < L.length, L[0].row = r0) := Lib.hid ⟨_, hr0⟩
  clear hC hl hr hjr hjm hr0
  go_enter Tryz.func17, Tryz.ntmps17
  go_wp2_with fail
  go_loopw [3, 15] (fun i3 i15 wr => ∃ (j : Nat) (m : Int), j ≤ n ∧ 0 ≤ m ∧ m < R ∧ i3 = .int .i64 m ∧ i15 = .int .i64 (j : Int) ∧ Hid (∀ q (h : q < L.length), q < j → L[q].row ≤ m) ∧ Hid (Below w.heap.size w wr)) (fun _ i _ => n - (intOf i).toNat)
  case atStart => exact ⟨0, r0, Nat.zero_le _, rb0, rb1, rfl, rfl, Lib.hid fun q _ h => absurd h (Nat.not_lt_zero _), Lib.hid (Below.refl _ _)⟩
  case round =>
    obtain ⟨j, m, hj, m0, m1, rfl, rfl, HM, HW⟩ := hrel
    by_cases hjn : j < n
    · have hjl : j < L.length := by rw [HL.out]; exact hjn
      obtain ⟨x, hx⟩ : ∃ x, L[j] = x := ⟨_, rfl⟩
      have hCx := (HC.out j hjl).below hg HW.out
      have hrx := HRR.out j hjl
      rw [hx] at hCx hrx
      obtain ⟨e0, e1, e2, e3⟩ := hCx
      obtain ⟨x0, x1⟩ := hrx
      have HX : Hid (∃ h : j < L.length, L[j] = x) := Lib.hid ⟨hjl, hx⟩
      clear hx hjl
      go_wp2
      go_roundw
      case rel =>
        refine ⟨j + 1, if m < x.row then x.row else m, by omega, by split <;> omega, by split <;> omega, (by first | rfl | (congr 1; split <;> omega)), by go_num, Lib.hid fun q h hq => ?_, Lib.hid (grows_alloc HW.out _)⟩
        by_cases e : q = j
        · subst e
          obtain ⟨_, e⟩ := HX.out
          rw [e]
          split <;> omega
        · have := HM.out q h (by omega)
          split <;> omega
      case measure => simp [intOf]; omega
    · obtain rfl : j = n := by omega
      have hmr : m = (R : Int) - 1 := by
        obtain ⟨h, e⟩ := HJ.out
        have := HM.out jm h (by rw [← HL.out]; exact h)
        omega
      have HMR := Lib.hid hmr
      clear hmr
      go_wp2
      go_ret
      exact ⟨by rw [show (R : Int) = m + 1 by have := HMR.out; omega]; rfl, HW.out⟩
end Go.Proofs.YtlhnmcopioeboaaGreat

/- The data columns of a block's sectors: how many there are. -/
namespace Go.Proofs.YtlhnmcopioeboaaGreat
set_option maxRecDepth 100000
open Go.RowKit

theorem heldTo_mem {M : List C} {z : Nat} {i : Int} {k : Nat} {x : C} (h : x ∈ heldTo M z i k) : x ∈ M := by
  induction k with
  | zero => simp [heldTo] at h
  | succ k ih =>
    unfold heldTo at h
    split at h
    · rcases List.mem_append.1 h with h | h
      · exact ih h
      · rw [Option.mem_toList] at h
        exact List.mem_of_getElem? h
    · exact ih h
/-- How many columns hold one of the first I sectors. -/
def cnt (M : List C) (z n : Nat) : Nat → Nat
  | 0 => 0
  | I + 1 => cnt M z n I + (heldTo M z (I : Int) n).length
theorem cnt_succ (M : List C) (z n : Nat) (hn : n < M.length) (I : Nat) : cnt M z (n + 1) I = cnt M z n I + (if n % z < I then 1 else 0) := by
  induction I with
  | zero => simp [cnt]
  | succ I ih =>
    rw [cnt, cnt, ih]
    by_cases e : n % z = I
    · rw [heldTo_yes (by rw [e]) ⟨hn, rfl⟩, List.length_append, if_neg (by omega), if_pos (by omega)]
      simp
      omega
    · rw [heldTo_no (by omega)]
      by_cases h : n % z < I
      · rw [if_pos h, if_pos (by omega)]; omega
      · rw [if_neg h, if_neg (by omega)]; omega
theorem cnt_all (M : List C) (z : Nat) (hz : 0 < z) (n : Nat) (hn : n ≤ M.length) : cnt M z n z = n := by
  induction n with
  | zero =>
    have : ∀ I, cnt M z 0 I = 0 := fun I => by
      induction I with
      | zero => rfl
      | succ I ih => rw [cnt, ih]; rfl
    exact this z
  | succ n ih => rw [cnt_succ M z n hn z, ih (by omega), if_pos (Nat.mod_lt _ hz)]
theorem cnt_mono (M : List C) (z n I J : Nat) (h : I ≤ J) : cnt M z n I ≤ cnt M z n J := by
  induction J with
  | zero => obtain rfl : I = 0 := by omega
            exact Nat.le_refl _
  | succ J ih =>
    by_cases e : I = J + 1
    · subst e; exact Nat.le_refl _
    · have := ih (by omega)
      rw [cnt]; omega
theorem heldTo_grow (M : List C) (z : Nat) (i : Int) (k n : Nat) (h : k ≤ n) : (heldTo M z i k).length ≤ (heldTo M z i n).length := by
  induction n with
  | zero => obtain rfl : k = 0 := by omega
            exact Nat.le_refl _
  | succ n ih =>
    by_cases e : k = n + 1
    · subst e; exact Nat.le_refl _
    · have := ih (by omega)
      have h2 : (heldTo M z i n).length ≤ (heldTo M z i (n + 1)).length := by
        conv => rhs; rw [heldTo]
        split
        · rw [List.length_append]; omega
        · omega
      omega
theorem held_some (M : List C) (z i : Nat) (hi : i < z) (hM : z ≤ M.length) : 0 < (heldTo M z (i : Int) M.length).length := by
  have h1 : heldTo M z (i : Int) (i + 1) = heldTo M z (i : Int) i ++ [M[i]'(by omega)] := heldTo_yes (by rw [Nat.mod_eq_of_lt hi]) ⟨by omega, rfl⟩
  have h2 := heldTo_grow M z (i : Int) (i + 1) M.length (by omega)
  rw [h1, List.length_append] at h2
  simp at h2
  omega
theorem held_none (M : List C) (z : Nat) (hz : 0 < z) (i : Int) (hi : i < 0 ∨ (z : Int) ≤ i) (n : Nat) : heldTo M z i n = [] := by
  induction n with
  | zero => rfl
  | succ n ih =>
    rw [heldTo_no (by have := Nat.mod_lt n hz; omega), ih]

theorem datL_app (a b : List C) : datL (a ++ b) = datL a ++ datL b := List.filter_append ..
theorem datL_mir (f t : Int) (u z : Nat) (hz : 0 < z) : datL (mirL f t u z) = mirL f t u z := List.filter_eq_self.2 fun x hx => by
  obtain ⟨j, hj, rfl⟩ := List.getElem_of_mem hx
  rw [mirL_get f t z hz u j hj]
  rfl
theorem datL_par (f : Int) (t u z : Nat) : (datL (parTo f t u z)).length = z := by
  induction z with
  | zero => rfl
  | succ k ih =>
    unfold parTo
    split
    · rw [datL_app, datL_app, List.length_append, List.length_append, ih]; rfl
    · rw [datL_app, List.length_append, ih]; rfl
theorem Blk.datas {l : List (Int × Int)} {s : Int} {k t z : Nat} (h : Blk l s k t z) : z ≤ (datL (colsOf l k t z)).length := by
  have hk := h.hk
  obtain ⟨kk, u, hlk, hok⟩ : ∃ kk u, l[k] = (kk, u) ∧ okG (kk, u) = true := ⟨l[k].1, l[k].2, rfl, h.right.all k hk⟩
  unfold colsOf
  rw [getD_at hk, hlk]
  unfold colsG
  split
  · rw [datL_mir _ _ _ _ h.z1, mirL_len]
    have h1 : 1 ≤ u.toNat := by have := okG_wide hok; dsimp only at this; omega
    have h2 : 1 * z ≤ u.toNat * z := Nat.mul_le_mul_right z h1
    show z ≤ u.toNat * z
    omega
  · rw [datL_par]; exact Nat.le_refl _
theorem dats_pars (L : List C) : (datL L).length + L.countP (fun x => x.par) = L.length := by
  induction L with
  | nil => rfl
  | cons x r ih =>
    unfold datL at ih ⊢
    cases h : x.par with
    | true => simp [h]; omega
    | false => simp [h]; omega
end Go.Proofs.YtlhnmcopioeboaaGreat

/- The rows of a block's columns. -/
namespace Go.Proofs.YtlhnmcopioeboaaGreat
set_option maxRecDepth 100000
open Go.RowKit

/-- Row and parity of a column. -/
def rp (c : C) : Int × Bool := (c.row, c.par)
theorem parTo_shape (f : Int) (t u z : Nat) : (parTo f t u z).map rp = (parTo 0 0 u z).map rp := by
  induction z with
  | zero => rfl
  | succ k ih => simp only [parTo]; split <;> simp [ih, rp, colP]
def rowsN (u z : Nat) : Nat := (z - 1) / (u - 1) + 1
theorem par_rows : ∀ u : Nat, u < 9 → 3 ≤ u → ∀ z : Nat, z < 5 → 1 ≤ z →
    (∀ x ∈ (parTo 0 0 u z).map rp, 0 ≤ x.1 ∧ x.1 < (rowsN u z : Int)) ∧ (∃ x ∈ (parTo 0 0 u z).map rp, x.1 = (rowsN u z : Int) - 1) ∧
    (∀ r : Nat, r < rowsN u z → ((parTo 0 0 u z).map rp).countP (fun x => decide (x.1 = (r : Int)) && x.2) = 1) ∧
    (∀ i : Nat, i < 6 → ∀ j : Nat, j < 6 → i < j → ∀ x ∈ ((parTo 0 0 u z).map rp)[i]?, ∀ y ∈ ((parTo 0 0 u z).map rp)[j]?, x.1 = y.1 → j < i + u) ∧ rowsN u z ≤ 4 := by
  intro u h9 h3 z h5 h1
  rcases (show u = 3 ∨ u = 4 ∨ u = 5 ∨ u = 6 ∨ u = 7 ∨ u = 8 by omega) with rfl | rfl | rfl | rfl | rfl | rfl <;> rcases (show z = 1 ∨ z = 2 ∨ z = 3 ∨ z = 4 by omega) with rfl | rfl | rfl | rfl <;> decide

/-- What is known of a block's rows. -/
structure Rowed (kk : Int) (u z : Nat) (L : List C) (R : Nat) : Prop where
  few : R ≤ 4
  in_ : ∀ j (h : j < L.length), 0 ≤ L[j].row ∧ L[j].row < R
  last : ∃ j, ∃ h : j < L.length, L[j].row = (R : Int) - 1
  pars : ∀ r : Nat, r < R → (L.countP (fun x => decide (x.row = (r : Int)) && x.par) : Int) = kk
  devs : ∀ i j (hi : i < L.length) (hj : j < L.length), i < j → L[i].row = L[j].row → L[i].dev ≠ L[j].dev
  datas : (datL L).length = if kk = 0 then z * u else z
  mir : kk = 0 → R = z
theorem rowed (f : Int) (kk : Int) (u t z : Nat) (hok : okG (kk, (u : Int)) = true) (z1 : 1 ≤ z) (z4 : z ≤ 4) : ∃ R, Rowed kk u z (colsG f (kk, (u : Int)) t z) R := by
  rcases okG_cases hok with ⟨rfl, u1, u8⟩ | ⟨rfl, u1, u8⟩
  · have e : colsG f (0, (u : Int)) t z = mirL f t u z := by unfold colsG; rw [if_pos rfl]; simp
    rw [e]
    have hl := mirL_len f t u z
    have hzp : 0 < z := by omega
    have hg := mirL_get f t z hzp u
    have hmod := fun j => Nat.mod_lt j hzp
    have h1 : 1 * z ≤ u * z := Nat.mul_le_mul_right z (by omega)
    refine ⟨z, z4, fun j h => ?_, ⟨z - 1, by omega, ?_⟩, fun r hr => ?_, fun i j hi hj hij => ?_, ?_, fun _ => rfl⟩
    · rw [hg j h]; dsimp only; have := hmod j; omega
    · rw [hg (z - 1) (by omega)]; dsimp only; rw [Nat.mod_eq_of_lt (by omega)]; omega
    · have h0 : (mirL f t u z).countP (fun x => decide (x.row = (r : Int)) && x.par) = 0 := by
        rw [List.countP_eq_zero]
        intro x hx
        obtain ⟨j, hj, rfl⟩ := List.getElem_of_mem hx
        rw [hg j hj]
        simp
      rw [h0]; rfl
    · rw [hg i hi, hg j hj]
      dsimp only
      intro e1 e2
      have e3 : i % z = j % z := by omega
      have e4 : i / z = j / z := by omega
      have h2 := Nat.div_add_mod i z
      have h3 := Nat.div_add_mod j z
      rw [e3, e4] at h2
      omega
    · rw [datL_mir _ _ _ _ hzp, hl, if_pos rfl, Nat.mul_comm]
  · have e : colsG f (1, (u : Int)) t z = parTo f t u z := by unfold colsG; rw [if_neg Int.one_ne_zero]; simp
    rw [e]
    obtain ⟨p1, p2, p3, p4, p5⟩ := par_rows u (by omega) (by omega) z (by omega) z1
    rw [← parTo_shape f t u z] at p1 p2 p3 p4
    have hl6 : (parTo f t u z).length ≤ 6 := by rw [parTo_len0]; exact (par_fits u (by omega) (by omega) z (by omega) z1).2.2
    refine ⟨rowsN u z, p5, fun j h => ?_, ?_, fun r hr => ?_, fun i j hi hj hij => ?_, ?_, fun h => absurd h Int.one_ne_zero⟩
    · exact p1 (rp (parTo f t u z)[j]) (List.mem_map.2 ⟨_, List.getElem_mem h, rfl⟩)
    · obtain ⟨x, hx, hr⟩ := p2
      obtain ⟨c, hc, rfl⟩ := List.mem_map.1 hx
      obtain ⟨j, hj, rfl⟩ := List.getElem_of_mem hc
      exact ⟨j, hj, hr⟩
    · have h1 := p3 r hr
      rw [List.countP_map] at h1
      have h2 : (parTo f t u z).countP (fun x => decide (x.row = (r : Int)) && x.par) = 1 := h1
      rw [h2]; rfl
    · intro er ed
      have h1 := p4 i (by omega) j (by omega) hij (rp (parTo f t u z)[i]) (by rw [List.getElem?_map, List.getElem?_eq_getElem hi]; rfl) (rp (parTo f t u z)[j]) (by rw [List.getElem?_map, List.getElem?_eq_getElem hj]; rfl) er
      obtain ⟨r1, b1, e1⟩ := parTo_get f t u z i hi
      obtain ⟨r2, b2, e2⟩ := parTo_get f t u z j hj
      rw [e1, e2] at ed
      have ed' : f + (((t + i) % u : Nat) : Int) = f + (((t + j) % u : Nat) : Int) := ed
      have e3 : (t + i) % u = (t + j) % u := by omega
      have h2 := Nat.div_add_mod (t + i) u
      have h3 := Nat.div_add_mod (t + j) u
      rw [e3] at h2
      have h4 : u * ((t + j) / u) = u * ((t + i) / u) + (j - i) := by omega
      rcases Nat.lt_or_ge ((t + i) / u) ((t + j) / u) with h5 | h5
      · have h6 : u * ((t + i) / u + 1) ≤ u * ((t + j) / u) := Nat.mul_le_mul_left u h5
        rw [Nat.mul_add, Nat.mul_one] at h6
        omega
      · have h6 : u * ((t + j) / u) ≤ u * ((t + i) / u) := Nat.mul_le_mul_left u h5
        omega
    · rw [datL_par, if_neg Int.one_ne_zero]
theorem Blk.rowed {l : List (Int × Int)} {s : Int} {k t z : Nat} (h : Blk l s k t z) {kk : Int} {u : Nat} (hl : l[k]'h.hk = (kk, (u : Int))) : ∃ R, Rowed kk u z (colsOf l k t z) R := by
  have hk := h.hk
  have hok := h.right.all k hk
  unfold colsOf
  rw [getD_at hk, hl]
  rw [hl] at hok
  exact Proofs.YtlhnmcopioeboaaGreat.rowed _ _ _ _ _ hok h.z1 h.z4
/-- Counting row by row. -/
theorem count_rows (L : List C) (r : Nat) : L.countP (fun x => decide (x.row < ((r + 1 : Nat) : Int)) && !x.par) = L.countP (fun x => decide (x.row < (r : Int)) && !x.par) + L.countP (fun x => decide (x.row = (r : Int)) && !x.par) := by
  induction L with
  | nil => rfl
  | cons x q ih =>
    simp only [List.countP_cons, ih]
    cases hp : x.par with
    | true => simp
    | false =>
      by_cases h1 : x.row < (r : Int)
      · have h2 : x.row < (r : Int) + 1 := by omega
        have h3 : ¬ x.row = (r : Int) := by omega
        simp [h1, h2, h3]
        omega
      · by_cases h3 : x.row = (r : Int)
        · have h2 : (r : Int) < (r : Int) + 1 := by omega
          simp [h3, h2]
          omega
        · have h2 : ¬ x.row < ((r + 1 : Nat) : Int) := by omega
          have h4 : ¬ x.row < (r : Int) + 1 := by omega
          simp [h1, h3, h4]
theorem count_none (L : List C) (h : ∀ j (h : j < L.length), 0 ≤ L[j].row) : L.countP (fun x => decide (x.row < ((0 : Nat) : Int)) && !x.par) = 0 := by
  rw [List.countP_eq_zero]
  intro x hx
  obtain ⟨j, hj, rfl⟩ := List.getElem_of_mem hx
  have := h j hj
  simp
  omega
theorem count_all (L : List C) (R : Nat) (h : ∀ j (h : j < L.length), L[j].row < (R : Int)) : L.countP (fun x => decide (x.row < (R : Int)) && !x.par) = (datL L).length := by
  unfold datL
  rw [← List.countP_eq_length_filter]
  refine List.countP_congr fun x hx => ?_
  obtain ⟨j, hj, rfl⟩ := List.getElem_of_mem hx
  simp [h j hj]
end Go.Proofs.YtlhnmcopioeboaaGreat

/- Blocks as columns, and what columns may come to: plain facts (no program is named here). -/
namespace Go.Proofs.YtlhnmcopioeboaaGreat
set_option maxRecDepth 100000
open M

/-- The i-th sector of a text. -/
def sect (s : ByteArray) (i : Nat) : ByteArray := s.extract (i * 64) ((i + 1) * 64)
theorem sect_size {s : ByteArray} {i z : Nat} (hs : s.size = z * 64) (hi : i < z) : (sect s i).size = 64 := by
  unfold sect; rw [ByteArray.size_extract]; omega
/-- Texts one behind the other. -/
def joinB (l : List ByteArray) : ByteArray := ⟨(l.flatMap fun s => s.data.toList).toArray⟩
theorem joinB_list (l : List ByteArray) : (joinB l).data.toList = l.flatMap fun s => s.data.toList := by simp [joinB]
theorem joinB_nil : joinB [] = ⟨#[]⟩ := rfl
theorem joinB_one (s : ByteArray) : joinB [s] = s := extL (by rw [joinB_list]; simp)
theorem joinB_snoc (l : List ByteArray) (s : ByteArray) : joinB l ++ s = joinB (l ++ [s]) := extL (by rw [joinB_list, ByteArray.data_append, Array.toList_append, joinB_list]; simp)
theorem joinB_size {l : List ByteArray} {n : Nat} (h : ∀ s ∈ l, s.size = n) : (joinB l).size = l.length * n := by
  rw [sizeL, joinB_list]
  induction l with
  | nil => simp
  | cons s r ih =>
    rw [List.flatMap_cons, List.length_append, ih fun t ht => h t (List.mem_cons_of_mem _ ht), List.length_cons, Nat.add_mul, ← sizeL, h s List.mem_cons_self]; omega
theorem sect_list (s : ByteArray) (i : Nat) : (sect s i).data.toList = (s.data.toList.drop (i * 64)).take 64 := by
  unfold sect
  rw [ByteArray.data_extract, Array.toList_extract, List.extract_eq_take_drop]
  congr 1
  omega
/-- A text's sectors, one behind the other, are it. -/
theorem join_sect {s : ByteArray} {z : Nat} (hs : s.size = z * 64) : joinB ((List.range z).map (sect s)) = s := by
  have key : ∀ k, ((List.range k).map (sect s)).flatMap (fun t => t.data.toList) = s.data.toList.take (k * 64) := by
    intro k
    induction k with
    | zero => simp
    | succ k ih =>
      rw [List.range_succ, List.map_append, List.flatMap_append, ih]
      simp only [List.map_cons, List.map_nil, List.flatMap_cons, List.flatMap_nil, List.append_nil]
      rw [sect_list, show (k + 1) * 64 = k * 64 + 64 by omega, List.take_add]
  apply extL
  rw [joinB_list, key, List.take_of_length_le (by rw [← sizeL, hs]; omega)]

/-- Data columns among the first k. -/
def dct (L : List C) (k : Nat) : Nat := (L.take k).countP fun c => !c.par
theorem dct_succ {L : List C} {k : Nat} (h : k < L.length) : dct L (k + 1) = dct L k + if L[k].par then 0 else 1 := by
  unfold dct
  rw [List.take_succ_eq_append_getElem h, List.countP_append]
  cases hp : L[k].par <;> simp [hp]
theorem dct_le (L : List C) (k : Nat) : dct L k ≤ k := Nat.le_trans List.countP_le_length (by rw [List.length_take]; omega)
theorem dct_all (L : List C) : dct L L.length = (datL L).length := by
  unfold dct datL
  rw [List.take_length, List.countP_eq_length_filter]
theorem dct_mono {L : List C} {j k : Nat} (h : j ≤ k) : dct L j ≤ dct L k := by
  unfold dct
  exact List.Sublist.countP_le (List.take_sublist_take_left h)
theorem dct_lt {L : List C} {k : Nat} (h : k < L.length) (hp : L[k].par = false) : dct L k < (datL L).length := by
  have h1 := dct_succ h
  rw [hp] at h1
  have h2 := dct_mono (L := L) (show k + 1 ≤ L.length from h)
  rw [dct_all] at h2
  simp at h1
  omega

/-- The places below n where q holds. -/
def idx (q : Nat → Bool) (n : Nat) : List Nat := (List.range n).filter q
theorem idx_succ (q : Nat → Bool) (n : Nat) : idx q (n + 1) = idx q n ++ if q n then [n] else [] := by
  unfold idx
  rw [List.range_succ, List.filter_append]
  cases h : q n <;> simp [h]
theorem idx_yes {q : Nat → Bool} {n : Nat} (h : q n = true) : idx q (n + 1) = idx q n ++ [n] := by rw [idx_succ, h]; rfl
theorem idx_no {q : Nat → Bool} {n : Nat} (h : q n = false) : idx q (n + 1) = idx q n := by rw [idx_succ, h]; simp
theorem idx_mem {q : Nat → Bool} {n j : Nat} : j ∈ idx q n ↔ j < n ∧ q j = true := by
  unfold idx; rw [List.mem_filter, List.mem_range]
theorem idx_le (q : Nat → Bool) (n : Nat) : (idx q n).length ≤ n := by
  unfold idx; exact Nat.le_trans (List.length_filter_le _ _) (by simp)
theorem idx_split {q : Nat → Bool} {a : Nat} (hq : q a = true) : ∀ n, a < n → ∃ r, idx q n = idx q a ++ a :: r ∧ ∀ j ∈ r, a < j ∧ j < n ∧ q j = true := by
  intro n
  induction n with
  | zero => intro h; omega
  | succ n ih =>
    intro h
    by_cases e : a = n
    · subst e
      exact ⟨[], idx_yes hq, fun j hj => by cases hj⟩
    · obtain ⟨r, hr, hm⟩ := ih (by omega)
      cases hn : q n with
      | true =>
        refine ⟨r ++ [n], by rw [idx_yes hn, hr]; simp, fun j hj => ?_⟩
        rcases List.mem_append.1 hj with h1 | h1
        · obtain ⟨h2, h3, h4⟩ := hm j h1; exact ⟨h2, by omega, h4⟩
        · rw [List.mem_singleton.1 h1]; exact ⟨by omega, by omega, hn⟩
      | false => exact ⟨r, by rw [idx_no hn, hr], fun j hj => by obtain ⟨h2, h3, h4⟩ := hm j hj; exact ⟨h2, by omega, h4⟩⟩
theorem idx_count {q : Nat → Bool} {p : C → Bool} (L : List C) (h : ∀ j (hj : j < L.length), q j = p L[j]) : ∀ k, k ≤ L.length → (idx q k).length = (L.take k).countP p := by
  intro k
  induction k with
  | zero => intro _; simp [idx]
  | succ k ih =>
    intro hk
    rw [List.take_succ_eq_append_getElem (show k < L.length by omega), List.countP_append, idx_succ, List.length_append, ih (by omega), h k (by omega)]
    cases hp : p L[k] <;> simp [hp]

def parAt (L : List C) (j : Nat) : Bool := (L[j]?).any C.par
def rowAt (L : List C) (j : Nat) : Int := (L[j]?).elim 0 C.row
def devAt (L : List C) (j : Nat) : Int := (L[j]?).elim 0 C.dev
theorem parAt_eq {L : List C} {j : Nat} (h : j < L.length) : parAt L j = L[j].par := by unfold parAt; rw [List.getElem?_eq_getElem h]; rfl
theorem rowAt_eq {L : List C} {j : Nat} (h : j < L.length) : rowAt L j = L[j].row := by unfold rowAt; rw [List.getElem?_eq_getElem h]; rfl
theorem devAt_eq {L : List C} {j : Nat} (h : j < L.length) : devAt L j = L[j].dev := by unfold devAt; rw [List.getElem?_eq_getElem h]; rfl

/-- The texts of a row's data columns among the first k. -/
def rowD (L : List C) (f : Nat → ByteArray) (r : Int) (k : Nat) : List ByteArray := (idx (fun j => !parAt L j && rowAt L j == r) k).map fun j => f (dct L j)
theorem rowD_yes {L : List C} {f : Nat → ByteArray} {r : Int} {k : Nat} (h1 : parAt L k = false) (h2 : rowAt L k = r) : rowD L f r (k + 1) = rowD L f r k ++ [f (dct L k)] := by
  unfold rowD; rw [idx_yes (by simp [h1, h2]), List.map_append]; rfl
theorem rowD_no {L : List C} {f : Nat → ByteArray} {r : Int} {k : Nat} (h : parAt L k = true ∨ rowAt L k ≠ r) : rowD L f r (k + 1) = rowD L f r k := by
  unfold rowD; rw [idx_no (by rcases h with h | h <;> simp [h])]
theorem rowD_len (L : List C) (f : Nat → ByteArray) (r : Int) (k : Nat) : (rowD L f r k).length ≤ k := by unfold rowD; rw [List.length_map]; exact idx_le _ _
/-- A column's text. -/
def encAt (L : List C) (f : Nat → ByteArray) (k : Nat) : ByteArray := if parAt L k then mkB (rowD L f (rowAt L k) L.length) else f (dct L k)
def encL (L : List C) (f : Nat → ByteArray) : List ByteArray := (List.range L.length).map (encAt L f)
theorem encL_len (L : List C) (f : Nat → ByteArray) : (encL L f).length = L.length := by simp [encL]
theorem encL_get (L : List C) (f : Nat → ByteArray) (j : Nat) (h : j < (encL L f).length) : (encL L f)[j] = encAt L f j := by simp [encL]
theorem encL_getD (L : List C) (f : Nat → ByteArray) (j : Nat) (h : j < L.length) : (encL L f).getD j ⟨#[]⟩ = encAt L f j := by
  rw [List.getD_eq_getElem?_getD, List.getElem?_eq_getElem (by rw [encL_len]; exact h), encL_get]; rfl

/-- What was read of a row's columns among the first k. -/
def rowG (L : List C) (G : List ByteArray) (r : Int) (k : Nat) : List ByteArray := (idx (fun j => rowAt L j == r) k).map fun j => G.getD j ⟨#[]⟩
theorem rowG_yes {L : List C} {G : List ByteArray} {r : Int} {k : Nat} (h : rowAt L k = r) : rowG L G r (k + 1) = rowG L G r k ++ [G.getD k ⟨#[]⟩] := by
  unfold rowG; rw [idx_yes (by simp [h]), List.map_append]; rfl
theorem rowG_no {L : List C} {G : List ByteArray} {r : Int} {k : Nat} (h : rowAt L k ≠ r) : rowG L G r (k + 1) = rowG L G r k := by
  unfold rowG; rw [idx_no (by simp [h])]
theorem rowG_len (L : List C) (G : List ByteArray) (r : Int) (k : Nat) : (rowG L G r k).length ≤ k := by unfold rowG; rw [List.length_map]; exact idx_le _ _
/-- A column made again by the others of its row. -/
def agn (L : List C) (G : List ByteArray) (a : Nat) : ByteArray := mkB ((rowG L G (rowAt L a) L.length).eraseIdx (rowG L G (rowAt L a) a).length)
/-- The data columns among the first k, a device's made again. -/
def wth (L : List C) (G : List ByteArray) (d : Int) (k : Nat) : List ByteArray := (idx (fun j => !parAt L j) k).map fun j => if devAt L j = d then agn L G j else G.getD j ⟨#[]⟩
theorem wth_par {L : List C} {G : List ByteArray} {d : Int} {k : Nat} (h : parAt L k = true) : wth L G d (k + 1) = wth L G d k := by
  unfold wth; rw [idx_no (by simp [h])]
theorem wth_data {L : List C} {G : List ByteArray} {d : Int} {k : Nat} (h : parAt L k = false) : wth L G d (k + 1) = wth L G d k ++ [if devAt L k = d then agn L G k else G.getD k ⟨#[]⟩] := by
  unfold wth; rw [idx_yes (by simp [h]), List.map_append]; rfl
theorem wth_len (L : List C) (G : List ByteArray) (d : Int) (k : Nat) : (wth L G d k).length ≤ k := by unfold wth; rw [List.length_map]; exact idx_le _ _
/-- Is one of the texts nothing? -/
def holeL (l : List ByteArray) : Bool := l.any fun s => s.size == 0
/-- A try, if all is there. -/
def tryOf (d : Int) (l : List ByteArray) : Option (Int × ByteArray) := if holeL l then none else some (d, joinB l)
def chunk (G : List ByteArray) (z d : Nat) : List ByteArray := (G.drop (d * z)).take z
/-- The tries of a Mirror's columns: u devices, z sectors each. -/
def triesM (L : List C) (G : List ByteArray) (u z : Nat) : List (Int × ByteArray) := (List.range u).filterMap fun d => tryOf (devAt L (d * z)) (chunk G z d)
/-- The tries of a Parity's columns. -/
def triesP (L : List C) (G : List ByteArray) (D : List Int) : List (Int × ByteArray) := D.filterMap fun d => tryOf d (wth L G d L.length)
end Go.Proofs.YtlhnmcopioeboaaGreat

/- par.Even, par.Blank, polderlaw03.few: what they answer. -/
namespace Go.Proofs.YtlhnmcopioeboaaGreat
set_option maxRecDepth 100000
open Go.RowKit M

/-- The closure of Even: is a text of another length than the first? -/
theorem epred_any (s s0 : ByteArray) (B g o n c : Nat) (w : World) (hB : w.cell? ⟨B, 0, none⟩ = some (.slice (some ⟨g, o, none⟩) n c)) (hn : 0 < n) (hc : w.cell? ⟨g, o, none⟩ = some (.string s0)) (b : Bool) (hb : ((s.size : Int) != (s0.size : Int)) = b) :
    Calls Tryz.prog 64 #[.string s, .pointer (some ⟨B, 0, none⟩)] w fun e w' => e = .returned (.bool b) ∧ w = w' := by
  go_enter Tryz.func64, Tryz.ntmps64
  go_wp2
  go_ret
  exact ⟨rfl, rfl⟩

/-- All that were looked at are as long as the first. -/
def sameTo (l : List ByteArray) (k : Nat) : Prop := ∀ j (h : j < l.length), j < k → l[j].size = wide l
theorem wide_at0 {l : List ByteArray} (h : 0 < l.length) : l[0].size = wide l := by
  cases l with
  | nil => exact absurd h (Nat.not_lt_zero _)
  | cons s r => rfl
theorem sameTo_all {l : List ByteArray} (h : sameTo l l.length) : evenL l = true := by
  rw [even_iff]
  intro s hs
  obtain ⟨j, hj, rfl⟩ := List.getElem_of_mem hs
  exact h j hj hj
theorem sameTo_not {l : List ByteArray} {k : Nat} (hk : k < l.length) (h : l[k].size ≠ wide l) : evenL l = false := by
  cases e : evenL l with
  | false => rfl
  | true => exact absurd (even_iff.1 e _ (List.getElem_mem hk)) h

set_option maxHeartbeats 1000000 in
theorem eindex_any (l : List ByteArray) (B g o c : Nat) (w : World) (hl : 0 < l.length) (hm : l.length ≤ maxLen) (hcc : l.length ≤ c)
    (hB : w.cell? ⟨B, 0, none⟩ = some (.slice (some ⟨g, o, none⟩) l.length c)) (hc : ∀ j (h : j < l.length), w.cell? ⟨g, o + j, none⟩ = some (.string l[j])) :
    Calls Tryz.prog 66 #[.slice (some ⟨g, o, none⟩) l.length c, .func (.func 64) #[] #[.pointer (some ⟨B, 0, none⟩)]] w fun e w' =>
      ∃ k : Int, e = .returned (.int .i64 k) ∧ (evenL l = true → k = -1) ∧ (evenL l = false → 0 ≤ k) ∧ w = w' := by
  unfold maxLen at hm
  have hc0 := hc 0 hl
  rw [Nat.add_zero] at hc0
  have hw := wide_at0 hl
  generalize hs0 : l[0] = s0 at hc0 hw
  clear hs0
  have HC := Lib.hid hc
  have HW := Lib.hid hw
  clear hc hw
  generalize hn : l.length = n at hl hm hcc hB
  have HN := Lib.hid hn
  clear hn
  go_enter Tryz.func66, Tryz.ntmps66
  go_wp2_with fail
  go_loop [8] (fun i => ∃ k : Nat, k ≤ n ∧ i = .int .i64 k ∧ Hid (sameTo l k)) (fun i => n - (intOf i).toNat)
  case atStart => exact ⟨0, Nat.zero_le _, rfl, Lib.hid fun j _ hj => absurd hj (Nat.not_lt_zero _)⟩
  case round =>
    obtain ⟨k, hk, rfl, H⟩ := hrel
    by_cases hlt : k < n
    · have hlt' : k < l.length := by rw [HN.out]; exact hlt
      have hck := HC.out k hlt'
      generalize hs : l[k] = s at hck
      have HS : Hid (∃ h : k < l.length, l[k] = s) := Lib.hid ⟨hlt', hs⟩
      clear hs hlt'
      by_cases hz : s.size = s0.size
      · have hz' : ((s.size : Int) != (s0.size : Int)) = false := by rw [hz]; simp
        have HZ := Lib.hid hz
        have HZ' := Lib.hid hz'
        clear hz hz'
        go_wp2_with fail
        refine (epred_any s s0 B g o n c _ hB hl hc0 false HZ'.out).mono ?_
        rintro e w1 ⟨rfl, rfl⟩
        go_wp2
        go_round
        case rel =>
          refine ⟨k + 1, by omega, by go_num, Lib.hid fun j hj hjk => ?_⟩
          by_cases e : j = k
          · subst e
            obtain ⟨_, hs⟩ := HS.out
            rw [hs, HZ.out, HW.out]
          · exact H.out j hj (by omega)
        case measure => simp [intOf]; omega
      · have hz' : ((s.size : Int) != (s0.size : Int)) = true := by rw [bne_iff_ne]; omega
        have HZ := Lib.hid hz
        have HZ' := Lib.hid hz'
        clear hz hz'
        go_wp2_with fail
        refine (epred_any s s0 B g o n c _ hB hl hc0 true HZ'.out).mono ?_
        rintro e w1 ⟨rfl, rfl⟩
        go_wp2
        go_ret
        have hno : evenL l = false := by
          obtain ⟨hk', hs⟩ := HS.out
          exact sameTo_not hk' (by rw [hs, ← HW.out]; exact HZ.out)
        exact ⟨k, rfl, fun h => by (rw [hno] at h; cases h), fun _ => by omega, rfl⟩
    · go_wp2
      go_ret
      have hyes : evenL l = true := sameTo_all (by
        obtain rfl : k = n := by omega
        rw [HN.out]; exact H.out)
      exact ⟨-1, rfl, fun _ => rfl, fun h => by (rw [hyes] at h; cases h), rfl⟩

theorem econtains_any (l : List ByteArray) (B g o c : Nat) (w : World) (hl : 0 < l.length) (hm : l.length ≤ maxLen) (hcc : l.length ≤ c)
    (hB : w.cell? ⟨B, 0, none⟩ = some (.slice (some ⟨g, o, none⟩) l.length c)) (hc : ∀ j (h : j < l.length), w.cell? ⟨g, o + j, none⟩ = some (.string l[j])) (b : Bool) (hb : evenL l = b) :
    Calls Tryz.prog 47 #[.slice (some ⟨g, o, none⟩) l.length c, .func (.func 64) #[] #[.pointer (some ⟨B, 0, none⟩)]] w fun e w' => e = .returned (.bool (!b)) ∧ w = w' := by
  have hI := Lib.hid (eindex_any l B g o c w hl hm hcc hB hc)
  clear hB hc hcc hm
  have HB := Lib.hid hb
  clear hb
  go_enter Tryz.func47, Tryz.ntmps47
  go_wp2_with fail
  refine hI.out.mono ?_
  rintro e w1 ⟨k, rfl, h1, h2, rfl⟩
  rw [HB.out] at h1 h2
  cases b with
  | true =>
    obtain rfl := h1 rfl
    go_wp2
    go_ret
    exact ⟨rfl, rfl⟩
  | false =>
    have hk := h2 rfl
    clear h1 h2
    go_wp2
    go_ret
    exact ⟨rfl, rfl⟩
theorem even_any (l : List ByteArray) (v : Value) (w : World) (h : Txt w v l) (hm : l.length ≤ maxLen) (b : Bool) (hb : evenL l = b) :
    Calls Tryz.prog 39 #[v] w fun e w' => e = .returned (.bool b) ∧ Below w.heap.size w w' := by
  by_cases hl : 0 < l.length
  · obtain ⟨g, o, c, rfl, hcc, hg, hc⟩ := h.isSome hl
    have HC := Lib.hid hc
    have HB := Lib.hid hb
    clear hc hb h
    go_enter Tryz.func39, Tryz.ntmps39
    go_wp2_with fail
    refine (econtains_any l w.heap.size g o c _ hl hm hcc (by simp) (fun j hj => ?_) b HB.out).mono ?_
    · rw [((Below.refl _ w).alloc (Nat.le_refl _) _).cell (p := ⟨g, o + j, none⟩) hg]; exact HC.out j hj
    rintro e w1 ⟨rfl, rfl⟩
    go_wp2
    go_ret
    exact ⟨by simp, (Below.refl _ w).alloc (Nat.le_refl _) _⟩
  · obtain rfl : l = [] := List.eq_nil_of_length_eq_zero (by omega)
    obtain ⟨a, c, rfl⟩ := h.isNone
    obtain rfl : true = b := hb
    clear h hl hm
    go_enter Tryz.func39, Tryz.ntmps39
    go_wp2_with go_in
    refine wp_loop_rounds 1 ?_
    rw [rounds_succ]
    go_wp2
    go_ret
    exact ⟨rfl, (Below.refl _ w).alloc (Nat.le_refl _) _⟩
end Go.Proofs.YtlhnmcopioeboaaGreat

/- par.Blank, the document's Zeros and Even, polderlaw03.few: what they answer. -/
namespace Go.Proofs.YtlhnmcopioeboaaGreat
set_option maxRecDepth 100000
open Go.RowKit M

theorem take_snoc (s : ByteArray) (k : Nat) (h : k < s.size) : s.data.toList.take (k + 1) = s.data.toList.take k ++ [s[k]] := by
  rw [List.take_succ_eq_append_getElem (by simpa using h)]; rfl
theorem blank_no (s : ByteArray) (k : Nat) (h : k < s.size) (hz : s[k] ≠ 0) : blankB s = false := by
  cases e : blankB s with
  | false => rfl
  | true =>
    rw [blankB, List.all_eq_true] at e
    have := e s[k] (by simp [ByteArray.getElem_eq_getElem_data])
    exact absurd (by simpa using this) hz

/-- What few adds up. -/
def fewN (l : List ByteArray) : Nat := (l.map fun s => min s.size 10000).sum
def fewL (l : List ByteArray) : Bool := decide (l.length < 30) && decide (fewN (l.take 30) ≤ 4000)
theorem few_short {l : List ByteArray} (h : fewL l = true) : l.length < 30 ∧ ∀ s ∈ l, s.size ≤ 4000 := by
  simp only [fewL, Bool.and_eq_true, decide_eq_true_eq] at h
  obtain ⟨h1, h2⟩ := h
  refine ⟨h1, fun s hs => ?_⟩
  rw [List.take_of_length_le (by omega)] at h2
  clear h1
  unfold fewN at h2
  induction l with
  | nil => cases hs
  | cons t r ih =>
    simp only [List.map_cons, List.sum_cons] at h2
    rcases List.mem_cons.1 hs with rfl | hs
    · omega
    · exact ih (by omega) hs
theorem fewN_snoc (l : List ByteArray) (k : Nat) (h : k < l.length) : fewN (l.take (k + 1)) = fewN (l.take k) + min l[k].size 10000 := by
  unfold fewN
  rw [List.take_succ_eq_append_getElem h, List.map_append, List.sum_append]
  simp only [List.map_cons, List.map_nil, List.sum_cons, List.sum_nil, Nat.add_zero]
theorem fewN_le (l : List ByteArray) (k : Nat) (hk : k ≤ 30) : fewN (l.take k) ≤ 300000 := by
  have : ∀ m : List ByteArray, fewN m ≤ 10000 * m.length := by
    intro m
    unfold fewN
    induction m with
    | nil => simp
    | cons t r ih => simp only [List.map_cons, List.sum_cons, List.length_cons]; omega
  have h2 := this (l.take k)
  rw [List.length_take] at h2
  omega

end Go.Proofs.YtlhnmcopioeboaaGreat

/- par.mix, par.Make: what they answer. -/
namespace Go.Proofs.YtlhnmcopioeboaaGreat
set_option maxRecDepth 100000
open Go.RowKit M

/-- The first k bytes made one with another text's. -/
def mixTo (p : List UInt8) (s : ByteArray) (k : Nat) : List UInt8 := List.zipWith (· ^^^ ·) (p.take k) (s.data.toList.take k) ++ p.drop k
theorem mixTo_zero (p : List UInt8) (s : ByteArray) : mixTo p s 0 = p := by simp [mixTo]
theorem mixTo_all (p : List UInt8) (s : ByteArray) (h : p.length = s.size) : mixTo p s p.length = List.zipWith (· ^^^ ·) p s.data.toList := by
  rw [mixTo, List.take_length, List.drop_length, List.append_nil, List.take_of_length_le (by rw [← sizeL]; omega)]
theorem mixTo_length (p : List UInt8) (s : ByteArray) (h : p.length = s.size) (k : Nat) : (mixTo p s k).length = p.length := by
  rw [sizeL] at h
  simp [mixTo] at h ⊢
  omega
theorem mixTo_at (p : List UInt8) (s : ByteArray) (h : p.length = s.size) (k : Nat) (hk : k < p.length) (h' : k < (mixTo p s k).length) : (mixTo p s k)[k] = p[k] := by
  have hs : s.data.toList.length = p.length := by rw [← sizeL]; exact h.symm
  simp only [mixTo]
  rw [List.getElem_append_right (by simp [hs]; omega)]
  simp only [List.length_zipWith, List.length_take, hs, List.getElem_drop]
  congr 1
  omega
theorem mixTo_next (p : List UInt8) (s : ByteArray) (h : p.length = s.size) (k : Nat) (hk : k < p.length) (hs : k < s.size) : (mixTo p s k).set k (p[k] ^^^ s[k]) = mixTo p s (k + 1) := by
  have hl : s.data.toList.length = p.length := by rw [← sizeL]; exact h.symm
  have hz : (List.zipWith (· ^^^ ·) (p.take k) (s.data.toList.take k)).length = k := by simp [hl]; omega
  unfold mixTo
  rw [List.set_append, if_neg (by omega), hz, Nat.sub_self, List.drop_eq_getElem_cons hk, List.set_cons_zero, List.take_succ_eq_append_getElem hk,
    List.take_succ_eq_append_getElem (l := s.data.toList) (by omega), List.zipWith_append (by simp [hl]), List.append_assoc]
  rfl
theorem xor_bits (a b : UInt8) : bits BinOp.xor IntKind.u8 (a.toNat : Int) (b.toNat : Int) = ((a ^^^ b).toNat : Int) := by
  rw [u8_xor_nat _ _ (UInt8.toNat_lt a) (UInt8.toNat_lt b), UInt8.toNat_xor]

set_option maxHeartbeats 1000000 in
theorem mix_any (p : List UInt8) (s : ByteArray) (g c n : Nat) (w : World) (B : Nat) (h : RowB w g p) (hB : B ≤ g) (hp : p.length = s.size) (hm : s.size ≤ maxLen) (hn : s.size = n) :
    Calls Tryz.prog 40 #[.slice (some ⟨g, 0, none⟩) n c, .string s] w fun e w' => e = .returned (.tuple #[]) ∧ RowB w' g (List.zipWith (· ^^^ ·) p s.data.toList) ∧ Below B w w' := by
  unfold maxLen at hm
  subst hn
  have HP := Lib.hid hp
  have HR := Lib.hid h
  clear h hp
  go_enter Tryz.func40, Tryz.ntmps40
  go_wp2_with fail
  go_loopw [7] (fun i wx => ∃ k : Nat, k ≤ s.size ∧ i = .int .i64 k ∧ RowB wx g (mixTo p s k) ∧ Below B w wx) (fun i _ => s.size - (intOf i).toNat)
  case atStart => exact ⟨0, Nat.zero_le _, rfl, by rw [mixTo_zero]; exact HR.out, Below.refl _ _⟩
  case round =>
    obtain ⟨k, hk, rfl, hr, hb⟩ := hrel
    by_cases hlt : k < s.size
    · have hlp : k < p.length := by rw [HP.out]; exact hlt
      have hml : k < (mixTo p s k).length := by rw [mixTo_length p s HP.out]; exact hlp
      have hck := hr.c k hml
      rw [mixTo_at p s HP.out k hlp hml] at hck
      have hfk := hr.f k hml
      have hx := xor_bits p[k] s[k]
      have hnx := RowB.set hr k hml (p[k] ^^^ s[k])
      rw [mixTo_next p s HP.out k hlp hlt] at hnx
      have HX := Lib.hid hnx
      generalize p[k] ^^^ s[k] = v at hx hnx HX
      generalize p[k] = u at hck hx
      clear hr hnx hlp hml
      have a1 : ((k : Int)).toNat = k := by omega
      go_wp2_with fail
      refine wp_region_still_tail 9 (by kernel_rfl) (by kernel_rfl) ?_
      simp only [List.take_succ_cons, List.take_zero, List.drop_succ_cons, List.drop_zero]
      repeat still_step
      refine wpStill_nil ?_
      go_wp2
      go_round
      case rel => exact ⟨k + 1, by omega, by go_num, HX.out.below (Below.refl _ _).drew HX.out.lt, (hb.setCell (p := ⟨g, k, none⟩) hB _).drew⟩
      case measure => simp [intOf]; omega
    · go_wp2
      go_end0
      obtain rfl : k = s.size := by omega
      refine ⟨rfl, ?_, hb⟩
      rw [← HP.out, mixTo_all p s HP.out] at hr
      exact hr

theorem ok_even {l : List ByteArray} (hl : 0 < l.length) : okL l = evenL l := by
  cases l with
  | nil => exact absurd hl (Nat.not_lt_zero _)
  | cons s r => simp [okL]

theorem even_cons {s0 : ByteArray} {r : List ByteArray} (he : ∀ s ∈ r, s.size = s0.size) : evenL (s0 :: r) = true := even_of (n := s0.size) fun s hs => by
  rcases List.mem_cons.1 hs with rfl | hs
  · rfl
  · exact he s hs

set_option maxHeartbeats 1000000 in
theorem make_ok (s0 : ByteArray) (r : List ByteArray) (g o c n : Nat) (w : World) (hn : (s0 :: r).length = n) (hcc : n ≤ c) (hg : g < w.heap.size) (hm : n ≤ maxLen) (hz : s0.size ≤ maxLen) (he : ∀ s ∈ r, s.size = s0.size)
    (hc : ∀ j (h : j < (s0 :: r).length), w.cell? ⟨g, o + j, none⟩ = some (.string (s0 :: r)[j])) :
    Calls Tryz.prog 19 #[.slice (some ⟨g, o, none⟩) n c] w fun e w' => e = .returned (.tuple #[.string (parB (s0 :: r)), .int .i64 0]) ∧ Below w.heap.size w w' := by
  have HT : Hid (Txt w (.slice (some ⟨g, o, none⟩) n c) (s0 :: r)) := Lib.hid (by subst hn; exact Txt.mk hcc hg hc)
  have HM : Hid ((s0 :: r).length ≤ maxLen) := Lib.hid (by rw [hn]; exact hm)
  have HE := Lib.hid he
  have HN : Hid (n = r.length + 1) := Lib.hid (by rw [← hn]; rfl)
  have hn1 : 1 ≤ n := by have := HN.out; omega
  have hn0 : ((n : Int) == 0) = false := by rw [beq_eq_false_iff_ne]; omega
  have HC := Lib.hid hc
  have HZ := Lib.hid hz
  unfold maxLen at hm
  clear he hn hc hz
  go_enter Tryz.func19, Tryz.ntmps19
  go_wp2_with fail
  refine (even_any _ _ _ HT.out HM.out true (even_cons HE.out)).mono ?_
  rintro e w1 ⟨rfl, b1⟩
  have HC1 : Hid (∀ j (h : j < (s0 :: r).length), w1.cell? ⟨g, o + j, none⟩ = some (.string (s0 :: r)[j])) := Lib.hid fun j hj => by
    rw [b1.cell (p := ⟨g, o + j, none⟩) hg]; exact HC.out j hj
  have hc0 : w1.cell? ⟨g, o, none⟩ = some (.string s0) := HC1.out 0 (by simp)
  have hcv := conv_to w1 s0
  have HR0 := Lib.hid (bytesW_row w1 s0)
  have hb0 := bytesW_below w1 s0
  have hg1 : g < w1.heap.size := Nat.lt_of_lt_of_le hg b1.size
  have hB1 : w.heap.size ≤ w1.heap.size := b1.size
  have hbb := early2 b1 hb0
  clear HC HT
  generalize hgx : grownCap w1 s0.size 0 5 = gc at hcv
  generalize hwx : bytesW w1 s0 = wx at hcv HR0 hb0 hbb
  clear hgx hwx
  by_cases hc1 : c = 1
  · obtain rfl : n = 1 := by omega
    subst hc1
    obtain rfl : r = [] := List.eq_nil_of_length_eq_zero (by have := HN.out; omega)
    have hcf := conv_from wx w1.heap.size _ HR0.out s0.size gc (sizeL s0)
    rw [show (⟨s0.data.toList.toArray⟩ : ByteArray) = s0 from by cases s0; rfl] at hcf
    go_wp2_with fail
    refine wp_loop_rounds 1 ?_
    rw [rounds_succ]
    go_wp2
    go_ret2
    exact ⟨by rw [par_single]; rfl, hbb⟩
  · go_wp2_with fail
    go_loopw [22] (fun i wr => ∃ k : Nat, k ≤ n - 1 ∧ i = .int .i64 k ∧ RowB wr w1.heap.size (parL ((s0 :: r).take (k + 1)) s0.size) ∧ Below w1.heap.size w1 wr) (fun i _ => n - 1 - (intOf i).toNat)
    case atStart =>
      refine ⟨0, Nat.zero_le _, rfl, ?_, hb0⟩
      rw [List.take_succ_cons, List.take_zero, parL_first]
      exact HR0.out
    case round =>
      obtain ⟨k, hk, rfl, hr, hb⟩ := hrel
      by_cases hlt : k < n - 1
      · have hkl : k < r.length := by have := HN.out; omega
        have hck : wr.cell? ⟨g, o + 1 + k, none⟩ = some (.string r[k]) := by
          rw [hb.cell (p := ⟨g, o + 1 + k, none⟩) hg1]
          have := HC1.out (k + 1) (by simp; omega)
          rw [show o + 1 + k = o + (k + 1) by omega]
          simpa using this
        have hsz := HE.out _ (List.getElem_mem hkl)
        have hmo := parL_more ((s0 :: r).take (k + 1)) r[k]
        rw [show (s0 :: r).take (k + 1) ++ [r[k]] = (s0 :: r).take (k + 1 + 1) by
          rw [List.take_succ_cons, List.take_succ_cons, List.cons_append, List.take_succ_eq_append_getElem hkl]] at hmo
        generalize r[k] = sk at hck hsz hmo
        have HS := Lib.hid hsz
        rw [hsz] at hmo
        have HMO := Lib.hid hmo
        have HR := Lib.hid hr
        clear hsz hmo hr
        go_wp2_with fail
        refine (mix_any _ sk w1.heap.size gc s0.size _ w1.heap.size HR.out (Nat.le_refl _) (by rw [parL_length, HS.out]) (by rw [HS.out]; exact HZ.out) HS.out).mono ?_
        rintro e w2 ⟨rfl, h2, b2⟩
        rw [HMO.out] at h2
        go_wp2
        go_round
        case rel => exact ⟨k + 1, by omega, by go_num, h2, hb.trans b2⟩
        case measure => simp [intOf]; omega
      · obtain rfl : k = n - 1 := by omega
        have hcf := conv_from wr w1.heap.size _ hr s0.size gc (by rw [parL_length])
        rw [List.take_of_length_le (by rw [List.length_cons]; have := HN.out; omega)] at hcf
        go_wp2
        go_ret2
        exact ⟨rfl, early2 b1 hb⟩
theorem make_any (l : List ByteArray) (v : Value) (w : World) (h : Txt w v l) (hm : l.length ≤ maxLen) (hz : ∀ s ∈ l, s.size ≤ maxLen) :
    Calls Tryz.prog 19 #[v] w fun e w' => e = .returned (.tuple #[.string (mkB l), .int .i64 (mkE l)]) ∧ Below w.heap.size w w' := by
  cases l with
  | nil =>
    obtain ⟨a, c, rfl⟩ := h.isNone
    obtain ⟨h1, h2⟩ := mk_no (l := []) rfl
    rw [h1, h2]
    clear h hm hz h1 h2
    go_enter Tryz.func19, Tryz.ntmps19
    go_wp2
    go_ret2
    exact ⟨rfl, Below.refl _ _⟩
  | cons s0 r =>
    have hev := ok_even (l := s0 :: r) (by simp)
    cases hb : evenL (s0 :: r) with
    | false =>
      obtain ⟨h1, h2⟩ := mk_no (hev.trans hb)
      rw [h1, h2]
      have HB := Lib.hid hb
      have HT := Lib.hid h
      have HM := Lib.hid hm
      obtain ⟨g, o, c, rfl, hcc, hg, hc⟩ := h.isSome (by simp)
      unfold maxLen at hm
      have hn1 : 1 ≤ (s0 :: r).length := by simp
      generalize hn : (s0 :: r).length = n at hn1 hm hcc HT
      clear hb h hev h1 h2 hc hz hn
      go_enter Tryz.func19, Tryz.ntmps19
      go_wp2_with fail
      refine (even_any _ _ _ HT.out HM.out false HB.out).mono ?_
      rintro e w1 ⟨rfl, b1⟩
      go_wp2
      go_ret2
      exact ⟨rfl, b1⟩
    | true =>
      obtain ⟨h1, h2⟩ := mk_ok (hev.trans hb)
      rw [h1, h2]
      obtain ⟨g, o, c, rfl, hcc, hg, hc⟩ := h.isSome (by simp)
      exact make_ok s0 r g o c _ w rfl hcc hg hm (hz s0 (List.mem_cons_self ..)) (fun s hs => even_iff.1 hb s (List.mem_cons_of_mem _ hs)) hc
end Go.Proofs.YtlhnmcopioeboaaGreat

/- polderlaw03.awake, par.Right: what they answer. -/
namespace Go.Proofs.YtlhnmcopioeboaaGreat
set_option maxRecDepth 100000
open Go.RowKit M

/-- How two texts are compared. -/
theorem eq_txt (p q : ByteArray) : (p.toList == q.toList) = decide (p = q) := by
  by_cases h : p = q
  · subst h; simp
  · have : p.toList ≠ q.toList := by
      rw [ByteArray.toList_eq, ByteArray.toList_eq]
      exact fun e => h (extL e)
    rw [decide_eq_false h]
    exact beq_eq_false_iff_ne.2 this

end Go.Proofs.YtlhnmcopioeboaaGreat

/- A text of zero bytes, made. -/
namespace Go.Proofs.YtlhnmcopioeboaaGreat
set_option maxRecDepth 100000
open Go.RowKit M

theorem info_u8 : ∃ i, Tryz.prog.info? 5 = some i ∧ i.zero = some (.int .u8 0) ∧ i.size = 1 ∧ i.bytes = 1 := info_parts (by kernel_rfl)
/-- The world behind make([]byte, n). -/
def zerosW (w : World) (n : Nat) : World := w.alloc (.cells (madeCells #[.int .u8 0] n) 5)
theorem make_zeros (w : World) (n : Nat) (hn : n ≤ 4294967296) : (Instr.makeSlice 53 (.int .i64 n) (.int .i64 n)).run Tryz.prog w = .ok (.slice (some ⟨w.heap.size, 0, none⟩) n n) (zerosW w n) := by
  obtain ⟨i, hi, hz, hs, hb⟩ := info_u8
  have := run_make (P := Tryz.prog) w 53 5 i (.int .u8 0) Tryz.underlying53 hi hz .i64 .i64 n n (by omega) (by omega) (by rw [hb]; omega) (by omega)
  rw [this, hs, Nat.mul_one]
  rfl
theorem zerosW_row (w : World) (n : Nat) : RowB (zerosW w n) w.heap.size (List.replicate n 0) := by
  have hh : (zerosW w n).heap[w.heap.size]? = some (.cells (madeCells #[.int .u8 0] n) 5) := heap_alloc_new w _
  refine ⟨fun j hj => ?_, fun j hj => ?_, by simp [zerosW]⟩
  · rw [List.length_replicate] at hj
    have : (madeCells #[Value.int .u8 0] n)[j]? = some (.int .u8 0) := by
      simp [madeCells, hj, Nat.mod_one]
    simp [World.cell?, hh, this]
  · exact World.frozen?_alloc_at _ _ _ _ rfl
theorem conv_zeros (w : World) (n : Nat) : (convert 53 9 (.slice (some ⟨w.heap.size, 0, none⟩) n n)).run Tryz.prog (zerosW w n) = .ok (.string (zeroB n)) (zerosW w n) :=
  conv_from (zerosW w n) w.heap.size _ (zerosW_row w n) n n (by simp)
theorem zerosW_below (w : World) (n : Nat) : Below w.heap.size w (zerosW w n) := (Below.refl _ w).alloc (Nat.le_refl _) _
theorem zeroB_size (n : Nat) : (zeroB n).size = n := by rw [sizeL]; simp [zeroB]
end Go.Proofs.YtlhnmcopioeboaaGreat

/- A slice of texts that is one's own: one of its texts read, and laid anew. -/
namespace Go.Proofs.YtlhnmcopioeboaaGreat
set_option maxRecDepth 100000
open Go.RowKit M

/-- An own slice that is not empty: where it lies. -/
theorem Own.at_ {w : World} {B n c : Nat} {a : Option Addr} {l : List ByteArray} (h : Own w B (.slice a n c) l) (hn : 0 < n) :
    ∃ g, a = some ⟨g, 0, none⟩ ∧ B ≤ g ∧ g < w.heap.size ∧ l.length = n ∧ n ≤ c ∧ (∀ j, j < n → w.frozen? ⟨g, j, none⟩ = false) ∧ ∀ j (hj : j < l.length), w.cell? ⟨g, j, none⟩ = some (.string l[j]) := by
  have hl := h.txt.len
  rcases h.2 with ⟨e, h0⟩ | ⟨g, cap, cur, e, hB, hg, hnc, _, hcs, _⟩
  · simp only [Value.slice.injEq] at e
    omega
  · simp only [Value.slice.injEq] at e
    obtain ⟨rfl, _, rfl⟩ := e
    refine ⟨g, rfl, hB, (Array.getElem?_eq_some_iff.1 hg).1, hl, by omega, fun j hj => ?_, fun j hj => ?_⟩
    · simp [World.frozen?, hg]
    · obtain ⟨g', o, c', e, _, _, hcell⟩ := h.txt.isSome (by omega)
      simp only [Value.slice.injEq, Option.some.injEq, Addr.mk.injEq, and_true] at e
      obtain ⟨⟨rfl, rfl⟩, _⟩ := e
      have := hcell j hj
      rwa [Nat.zero_add] at this
theorem Own.set {w : World} {B n c g : Nat} {l : List ByteArray} (h : Own w B (.slice (some ⟨g, 0, none⟩) n c) l) (k : Nat) (hk : k < n) (s : ByteArray) :
    Own (w.setCell ⟨g, k, none⟩ (.string s)) B (.slice (some ⟨g, 0, none⟩) n c) (l.set k s) := by
  have hl := h.txt.len
  rcases h.2 with ⟨e, h0⟩ | ⟨g', cap, cur, e, hB, hg, hnc, hcm, hcs, ht⟩
  · simp only [Value.slice.injEq] at e
    omega
  · simp only [Value.slice.injEq, Option.some.injEq, Addr.mk.injEq, and_true] at e
    obtain ⟨rfl, _, rfl⟩ := e
    refine ⟨by simp, .inr ⟨g, c, cur.setIfInBounds k (.string s), by simp [hl], hB, ?_, by simpa using hnc, hcm, by simpa using hcs, ?_⟩⟩
    · simp [World.setCell, Array.getElem?_modify, hg]
    · rw [List.length_set, Nat.mul_one] at *
      rw [Array.toList_setIfInBounds, List.take_set, ht, List.map_set]
/-- Stored: what lay below is as it was. -/
theorem below_store {w w' : World} {B g k : Nat} (h : Below B w w') (hB : B ≤ g) (v : Value) : Below B w (w'.setCell ⟨g, k, none⟩ v) := h.setCell (p := ⟨g, k, none⟩) hB v
end Go.Proofs.YtlhnmcopioeboaaGreat

/- slices.Grow, slices.Concat of two, par.Again: what they answer. -/
namespace Go.Proofs.YtlhnmcopioeboaaGreat
set_option maxRecDepth 100000
open Go.RowKit M

set_option maxHeartbeats 1000000 in
theorem grow_any (n : Nat) (w : World) (hn : 0 < n) (hn2 : n ≤ 4294967296) :
    Calls Tryz.prog 103 #[.slice none 0 0, .int .i64 n] w fun e w' =>
      ∃ c, e = .returned (.slice (some ⟨w.heap.size, 0, none⟩) 0 c) ∧ Own w' w.heap.size (.slice (some ⟨w.heap.size, 0, none⟩) 0 c) [] ∧ Below w.heap.size w w' := by
  obtain ⟨i, hi, hz, hs, hb⟩ := info_str
  have hr := fun ty => Lib.run_append_nil_zeros (P := Tryz.prog) w 37 3 ty 9 i (.string ⟨#[]⟩) .i64 .i64 Tryz.underlying37 Tryz.underlying3 hi hz n hn (by omega) (by omega) (by rw [hb]; omega)
  have hge := grownCap_ge w n 0 9
  have hle := grownCap_le_maxLen w n 0 9 (by unfold maxLen; omega)
  have hO : Own (w.drew.alloc (.cells (Builtin.zeroCells (Value.string ⟨#[]⟩).cells n ++ Builtin.zeroCells (Value.string ⟨#[]⟩).cells (grownCap w n 0 9 - n)) 9)) w.heap.size (.slice (some ⟨w.heap.size, 0, none⟩) 0 (grownCap w n 0 9)) [] := by
    refine World.ownsRow_made (e := 9) (size := 1) (base := w.heap.size) w.drew _ (grownCap w n 0 9) (Nat.le_refl _) hle ?_
    simp only [Array.size_append, size_zeroCells]
    have : (Value.string ⟨#[]⟩).cells.size = 1 := rfl
    rw [this]
    omega
  have hB : Below w.heap.size w (w.drew.alloc (.cells (Builtin.zeroCells (Value.string ⟨#[]⟩).cells n ++ Builtin.zeroCells (Value.string ⟨#[]⟩).cells (grownCap w n 0 9 - n)) 9)) := (Below.refl _ w).drew.alloc (Nat.le_refl _) _
  generalize hW : w.drew.alloc (.cells (Builtin.zeroCells (Value.string ⟨#[]⟩).cells n ++ Builtin.zeroCells (Value.string ⟨#[]⟩).cells (grownCap w n 0 9 - n)) 9) = W at hr hO hB
  generalize hg : grownCap w n 0 9 = gc at hr hO hge hle
  have HR := Lib.hid hr
  unfold maxLen at hle
  clear hr hW hg hi hz hs hb
  go_enter Tryz.func103, Tryz.ntmps103
  go_wp2_with (at_builtin; refine Lib.wpList_append_run _ rfl (.tmp 20) (.tmp 21) _ _ rfl _ _ rfl rfl _ _ (HR.out _) ?_)
  go_ret
  exact ⟨gc, rfl, hO, hB⟩

set_option maxHeartbeats 2000000 in
theorem concat_any (l1 l2 : List ByteArray) (a1 a2 : Option Addr) (n1 c1 n2 c2 D : Nat) (w : World) (h1 : Txt w (.slice a1 n1 c1) l1) (h2 : Txt w (.slice a2 n2 c2) l2) (hD : D < w.heap.size)
    (hd1 : w.cell? ⟨D, 0, none⟩ = some (.slice a1 n1 c1)) (hd2 : w.cell? ⟨D, 1, none⟩ = some (.slice a2 n2 c2)) (hn : 0 < n1 + n2) (hn2 : n1 + n2 ≤ 4294967296) :
    Calls Tryz.prog 94 #[.slice (some ⟨D, 0, none⟩) 2 2] w fun e w' =>
      ∃ a c, e = .returned (.slice a (n1 + n2) c) ∧ Txt w' (.slice a (n1 + n2) c) (l1 ++ l2) ∧ Below w.heap.size w w' := by
  have HL1 := Lib.hid h1.len
  have HL2 := Lib.hid h2.len
  have H1 := Lib.hid h1
  have H2 := Lib.hid h2
  clear h1 h2
  go_enter Tryz.func94, Tryz.ntmps94
  go_wp2_with fail
  refine wp_loop_rounds 3 ?_
  rw [rounds_succ]
  go_wp2_with fail
  rw [rounds_succ]
  go_wp2_with fail
  rw [rounds_succ]
  go_wp2_with fail
  have hg := grow_any (n1 + n2) w hn hn2
  rw [show ((n1 + n2 : Nat) : Int) = (n1 : Int) + (n2 : Int) by omega] at hg
  refine hg.mono ?_
  clear hg
  rintro e w1 ⟨c, rfl, hO1, b1⟩
  have hB1 : w.heap.size ≤ w1.heap.size := b1.size
  have hd1' : w1.cell? ⟨D, 0, none⟩ = some (.slice a1 n1 c1) := by rw [b1.cell (p := ⟨D, 0, none⟩) hD]; exact hd1
  have hd2' : w1.cell? ⟨D, 1, none⟩ = some (.slice a2 n2 c2) := by rw [b1.cell (p := ⟨D, 1, none⟩) hD]; exact hd2
  have hT1 := H1.out.below b1
  clear hd1 hd2
  go_wp2_with fail
  refine wp_loop_rounds 3 ?_
  rw [rounds_succ]
  go_wp2_with (at_builtin; refine wpList_append_txt _ rfl (.tmp 31) (.tmp 32) rfl w.heap.size _ _ [] l1 l1 n1 rfl rfl rfl HL1.out hO1 hT1 hB1 (by omega) ?_; intro a3 c3 w3 hO3 b3 s3)
  have b03 := b1.trans b3
  have hd3 : w3.cell? ⟨D, 1, none⟩ = some (.slice a2 n2 c2) := by rw [b3.cell (p := ⟨D, 1, none⟩) hD]; exact hd2'
  have hT3 := H2.out.below b03
  clear hd1' hd2' hT1 hO1
  rw [rounds_succ]
  go_wp2_with (at_builtin; refine wpList_append_txt _ rfl (.tmp 31) (.tmp 32) rfl w.heap.size _ _ l1 l2 (l1 ++ l2) (n1 + n2) rfl rfl rfl (by simp [HL1.out, HL2.out]) hO3 hT3 b03.size (by omega) ?_; intro a4 c4 w4 hO4 b4 s4)
  rw [rounds_succ]
  go_wp2
  go_ret
  exact ⟨a4, c4, rfl, hO4.txt, b03.trans b4⟩

/-- A slice's first texts, and its last. -/
theorem txt_take {w : World} {g o c k : Nat} {l : List ByteArray} (hk : k ≤ l.length) (hc : k ≤ c) (hg : g < w.heap.size) (h : ∀ j (h : j < l.length), w.cell? ⟨g, o + j, none⟩ = some (.string l[j])) :
    Txt w (.slice (some ⟨g, o, none⟩) k c) (l.take k) := by
  have hl : (l.take k).length = k := by rw [List.length_take]; omega
  refine ⟨_, c, by rw [hl], by omega, fun j hj => ⟨g, o, rfl, hg, ?_⟩⟩
  rw [hl] at hj
  rw [h j (by omega), List.getElem_take]
theorem txt_drop {w : World} {g o c k n : Nat} {l : List ByteArray} (hn : l.length = n) (hc : n ≤ c) (hg : g < w.heap.size) (h : ∀ j (h : j < l.length), w.cell? ⟨g, o + j, none⟩ = some (.string l[j])) :
    Txt w (.slice (some ⟨g, o + k, none⟩) (n - k) (c - k)) (l.drop k) := by
  have hl : (l.drop k).length = n - k := by rw [List.length_drop]; omega
  refine ⟨_, c - k, by rw [hl], by omega, fun j hj => ⟨g, o + k, rfl, hg, ?_⟩⟩
  rw [hl] at hj
  rw [Nat.add_assoc, h (k + j) (by omega), List.getElem_drop]
theorem txt_empty (w : World) (a : Option Addr) (c : Nat) : Txt w (.slice a 0 c) [] := ⟨a, c, rfl, Nat.zero_le _, fun _ h => absurd h (Nat.not_lt_zero _)⟩
theorem mem_erase {α : Type} {l : List α} {k : Nat} {s : α} (h : s ∈ l.eraseIdx k) : s ∈ l := List.mem_of_mem_eraseIdx h

/-- A place that is none, or fewer than two. -/
theorem again_no (a : Option Addr) (n c : Nat) (at_ : Int) (w : World) (h : n < 2 ∨ at_ < 0 ∨ (n : Int) ≤ at_) :
    Calls Tryz.prog 80 #[.slice a n c, .int .i64 at_] w fun e w' => e = .returned (.tuple #[.string ⟨#[]⟩, .int .i64 1]) ∧ w = w' := by
  by_cases h1 : n < 2
  · clear h
    go_enter Tryz.func80, Tryz.ntmps80
    go_wp2
    go_ret2
    exact ⟨rfl, rfl⟩
  · by_cases h2 : at_ < 0
    · clear h
      go_enter Tryz.func80, Tryz.ntmps80
      go_wp2
      go_ret2
      exact ⟨rfl, rfl⟩
    · have h3 : (n : Int) ≤ at_ := by omega
      clear h
      go_enter Tryz.func80, Tryz.ntmps80
      go_wp2
      go_ret2
      exact ⟨rfl, rfl⟩
end Go.Proofs.YtlhnmcopioeboaaGreat
