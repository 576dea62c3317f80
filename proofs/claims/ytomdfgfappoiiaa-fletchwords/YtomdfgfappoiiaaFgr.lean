/-
  fletch.grow, Sum, More: what they answer.
-/
import Derived.Test.YtomdfgfappoiiaaFit
namespace Go.Proofs.Ytomdfgfappoiiaa
open Go.RowKit Go.Shelf M
attribute [local go_sem] Oper.semAt_some

/-- Block b holds the four numbers of a sum. -/
structure HoldsQ (W : World) (b : Nat) (q : Q) : Prop where
  c0 : W.cell? ⟨b, 0, none⟩ = some (.int .u64 q.a)
  c1 : W.cell? ⟨b, 1, none⟩ = some (.int .u64 q.b)
  c2 : W.cell? ⟨b, 2, none⟩ = some (.int .u64 q.c)
  c3 : W.cell? ⟨b, 3, none⟩ = some (.int .u64 q.d)
  f0 : W.frozen? ⟨b, 0, none⟩ = false
  f1 : W.frozen? ⟨b, 1, none⟩ = false
  f2 : W.frozen? ⟨b, 2, none⟩ = false
  f3 : W.frozen? ⟨b, 3, none⟩ = false

theorem HoldsQ.new (w : World) (q : Q) (t : TypeId) : HoldsQ (w.alloc (.cells #[.int .u64 q.a, .int .u64 q.b, .int .u64 q.c, .int .u64 q.d] t)) w.heap.size q :=
  ⟨by simp, by simp, by simp, by simp, World.frozen?_alloc_at _ _ _ _ rfl, World.frozen?_alloc_at _ _ _ _ rfl, World.frozen?_alloc_at _ _ _ _ rfl, World.frozen?_alloc_at _ _ _ _ rfl⟩
theorem HoldsQ.below {W W' : World} {b B : Nat} {q : Q} (h : HoldsQ W b q) (hb : Below B W W') (hB : b < B) : HoldsQ W' b q :=
  ⟨by rw [hb.cell (p := ⟨b, 0, none⟩) hB]; exact h.c0, by rw [hb.cell (p := ⟨b, 1, none⟩) hB]; exact h.c1, by rw [hb.cell (p := ⟨b, 2, none⟩) hB]; exact h.c2, by rw [hb.cell (p := ⟨b, 3, none⟩) hB]; exact h.c3,
    by rw [hb.frozen (p := ⟨b, 0, none⟩) hB]; exact h.f0, by rw [hb.frozen (p := ⟨b, 1, none⟩) hB]; exact h.f1, by rw [hb.frozen (p := ⟨b, 2, none⟩) hB]; exact h.f2, by rw [hb.frozen (p := ⟨b, 3, none⟩) hB]; exact h.f3⟩
/-- The four cells stored one behind the other. -/
def putQ (W : World) (b : Nat) (q : Q) : World := (((W.setCell ⟨b, 0, none⟩ (.int .u64 q.a)).setCell ⟨b, 1, none⟩ (.int .u64 q.b)).setCell ⟨b, 2, none⟩ (.int .u64 q.c)).setCell ⟨b, 3, none⟩ (.int .u64 q.d)
theorem HoldsQ.put {W : World} {b : Nat} {q : Q} (h : HoldsQ W b q) (q' : Q) : HoldsQ (putQ W b q') b q' := by
  obtain ⟨h0, h1, h2, h3, f0, f1, f2, f3⟩ := h
  refine ⟨?_, ?_, ?_, ?_, ?_, ?_, ?_, ?_⟩
  all_goals simp [putQ, World.cell?_setCell_other, World.cell?_setCell_same', h0, h1, h2, h3, f0, f1, f2, f3]
theorem HoldsQ.putOther {W : World} {b d : Nat} {q : Q} (h : HoldsQ W d q) (hne : d ≠ b) (q' : Q) : HoldsQ (putQ W b q') d q := by
  obtain ⟨h0, h1, h2, h3, f0, f1, f2, f3⟩ := h
  have hne' : b ≠ d := fun e => hne e.symm
  refine ⟨?_, ?_, ?_, ?_, ?_, ?_, ?_, ?_⟩
  all_goals simp [putQ, World.cell?_setCell_other, h0, h1, h2, h3, f0, f1, f2, f3]
theorem putQ_below {W : World} {B b : Nat} (hB : B ≤ b) (q : Q) : Below B W (putQ W b q) :=
  ((((Below.refl _ _).setCell hB _).setCell hB _).setCell hB _).setCell hB _
theorem putQ_since {W : World} {B b : Nat} (hB : b < B) (q : Q) : Since B W (putQ W b q) :=
  ((((Since.refl _ _).setCell hB _).setCell hB _).setCell hB _).setCell hB _

theorem putQ_heap {W : World} {b k : Nat} (h : k ≠ b) (q : Q) : (putQ W b q).heap[k]? = W.heap[k]? := by
  unfold putQ
  rw [Below.heap_setCell _ _ _ _ h, Below.heap_setCell _ _ _ _ h, Below.heap_setCell _ _ _ _ h, Below.heap_setCell _ _ _ _ h]
theorem wrap_add (a x : Nat) : IntKind.u64.wrap ((a : Int) + (x : Int)) = (((a + x) % 18446744073709551616 : Nat) : Int) := by
  rw [IntKind.wrap_u64]; omega

set_option maxHeartbeats 1000000 in
theorem grow_any (q : Q) (s : ByteArray) (w : World) (hq : q.Ok) (hs : s.size ≤ 1099511627776) :
    Calls Try.prog 22 #[.agg #[.int .u64 q.a, .int .u64 q.b, .int .u64 q.c, .int .u64 q.d], .string s] w fun e w' =>
      e = .returned (.agg #[.int .u64 (sumQ q (wordsB s)).a, .int .u64 (sumQ q (wordsB s)).b, .int .u64 (sumQ q (wordsB s)).c, .int .u64 (sumQ q (wordsB s)).d]) ∧ Below w.heap.size w w' := by
  refine (callsIn_wide (n := 5)).1 ?_
  refine callsIn_of_wp_marks Try.func22 rfl trivial ?_ rfl
  simp only [Try.ntmps22, List.size_toArray, List.length_cons, List.length_nil, Nat.reduceAdd, Nat.reduceSub, Array.replicate_succ, Array.replicate_zero, List.push_toArray, List.append_toArray, List.nil_append, List.cons_append]
  gi_wp2_with fail
  refine ⟨trivial, ?_⟩
  refine (callsIn_wide.2 (words_any s _)).mono ?_
  rintro e w1 ⟨rfl, rfl⟩
  gi_wp2_with fail
  have hB0 : Below w.heap.size w (((w.alloc (.cells #[.int .u64 q.a, .int .u64 q.b, .int .u64 q.c, .int .u64 q.d] 29)).alloc (.cells #[.int .u64 0, .int .u64 0, .int .u64 0, .int .u64 0] 29)).alloc (.cells #[.string s] 9)) :=
    (((Below.refl _ w).alloc (Nat.le_refl _) _).alloc (by simp) _).alloc (by simp; omega) _
  have hs0 := (((w.alloc (.cells #[.int .u64 q.a, .int .u64 q.b, .int .u64 q.c, .int .u64 q.d] 29)).alloc (.cells #[.int .u64 0, .int .u64 0, .int .u64 0, .int .u64 0] 29))).size_alloc (.cells #[.string s] 9)
  have hx0 : HoldsQ (((w.alloc (.cells #[.int .u64 q.a, .int .u64 q.b, .int .u64 q.c, .int .u64 q.d] 29)).alloc (.cells #[.int .u64 0, .int .u64 0, .int .u64 0, .int .u64 0] 29)).alloc (.cells #[.string s] 9)) w.heap.size q :=
    (HoldsQ.new w q 29).below (B := w.heap.size + 1) (((Below.refl _ _).alloc (by simp) _).alloc (by simp) _) (by omega)
  have hr0 : HoldsQ (((w.alloc (.cells #[.int .u64 q.a, .int .u64 q.b, .int .u64 q.c, .int .u64 q.d] 29)).alloc (.cells #[.int .u64 0, .int .u64 0, .int .u64 0, .int .u64 0] 29)).alloc (.cells #[.string s] 9)) (w.heap.size + 1) zeroQ := by
    have := (HoldsQ.new (w.alloc (.cells #[.int .u64 q.a, .int .u64 q.b, .int .u64 q.c, .int .u64 q.d] 29)) zeroQ 29)
    rw [World.size_alloc] at this
    exact this.below (B := w.heap.size + 2) ((Below.refl _ _).alloc (by simp) _) (by omega)
  have hc0 : (((w.alloc (.cells #[.int .u64 q.a, .int .u64 q.b, .int .u64 q.c, .int .u64 q.d] 29)).alloc (.cells #[.int .u64 0, .int .u64 0, .int .u64 0, .int .u64 0] 29)).alloc (.cells #[.string s] 9)).cell? ⟨w.heap.size + 1 + 1, 0, none⟩ = some (.string s) := by
    rw [show w.heap.size + 1 + 1 = ((w.alloc (.cells #[.int .u64 q.a, .int .u64 q.b, .int .u64 q.c, .int .u64 q.d] 29)).alloc (.cells #[.int .u64 0, .int .u64 0, .int .u64 0, .int .u64 0] 29)).heap.size by simp, World.cell?_alloc_new]
    rfl
  generalize (((w.alloc (.cells #[.int .u64 q.a, .int .u64 q.b, .int .u64 q.c, .int .u64 q.d] 29)).alloc (.cells #[.int .u64 0, .int .u64 0, .int .u64 0, .int .u64 0] 29)).alloc (.cells #[.string s] 9)) = W0 at hB0 hs0 hx0 hr0 hc0
  simp only [World.size_alloc] at hs0
  refine wpIn_range_hands rfl (by omega) (gf := 26) (lb := #[.pointer (some ⟨w.heap.size + 1 + 1, 0, none⟩)]) rfl trivial (enters_of Try.func26 (by kernel_rfl) rfl)
    (words1_hands _ (by omega) (w.heap.size + 1 + 1) s W0 hc0 (by omega) hs) (Below.refl _ _) rfl
    (fun k W => (HoldsQ W w.heap.size (sumQ q ((wordsB s).take k)) ∧ HoldsQ W (w.heap.size + 1) zeroQ) ∧ Below w.heap.size w W)
    (fun _ _ _ => False)
    (fun k X Y h hb => ⟨⟨h.1.1.below hb (by omega), h.1.2.below hb (by omega)⟩, h.2.trans (hb.mono (by omega))⟩)
    (fun _ _ _ _ h _ => h)
    ⟨⟨hx0, hr0⟩, hB0⟩
    (fun x => { tmps := #[.agg #[.int .u64 q.a, .int .u64 q.b, .int .u64 q.c, .int .u64 q.d], .string s, .pointer (some ⟨w.heap.size, 0, none⟩), undef, .pointer (some ⟨w.heap.size + 1, 0, none⟩), .int .u64 x, .string s,
      .func (.func 26) #[] #[.pointer (some ⟨w.heap.size + 1 + 1, 0, none⟩)], .int .u64 x, undef, undef, undef, undef, undef, undef, undef, undef, undef, undef, undef, undef, undef, undef, undef, undef, undef, undef, undef, undef, undef, undef, undef, undef], defers := [] }) ?assign ?body ?done ?stop
  case assign =>
    intro l x W K hK
    gi_wp2
    exact hK
  case body =>
    rintro l k x W hx ⟨⟨hX, hR⟩, hB⟩
    have HB := Lib.hid hB
    have HR := Lib.hid hR
    have HX := Lib.hid hX
    have hxl : x < 4294967296 := by rw [(wordsL_get hx).2]; exact wordAt_lt _ k
    have HS := Lib.hid (show sumQ q ((wordsB s).take (k + 1)) = stepQ (sumQ q ((wordsB s).take k)) x by rw [take_words hx, sumQ_snoc])
    clear hB hR hx hx0 hr0 hc0 hB0
    have hok := sumQ_ok ((wordsB s).take k) q hq
    generalize sumQ q ((wordsB s).take k) = r at hX HX HS hok
    obtain ⟨k0, k1, k2, k3, f0, f1, f2, f3⟩ := hX
    gi_wp2
    rw [wrap_add r.a x, wrap_add r.b _, wrap_add r.c _, wrap_add r.d _]
    exact ⟨putQ_since (by omega) (stepQ r x), ⟨by rw [HS.out]; exact HX.out.put (stepQ r x), HR.out.putOther (by omega) (stepQ r x)⟩, HB.out.trans (putQ_below (Nat.le_refl _) (stepQ r x))⟩
  case done =>
    rintro D W hD ⟨⟨hX, hR⟩, hB⟩ hK
    rw [List.take_of_length_le (Nat.le_refl _)] at hX
    have HR := Lib.hid hR
    obtain ⟨k0, k1, k2, k3, f0, f1, f2, f3⟩ := hX
    obtain ⟨r0, r1, r2, r3, g0, g1, g2, g3⟩ := hR
    gi_wp2
    rw [show ((((W.setCell ⟨w.heap.size + 1, 0, none⟩ (.int .u64 (sumQ q (wordsB s)).a)).setCell ⟨w.heap.size + 1, 1, none⟩ (.int .u64 (sumQ q (wordsB s)).b)).setCell ⟨w.heap.size + 1, 2, none⟩ (.int .u64 (sumQ q (wordsB s)).c)).setCell
      ⟨w.heap.size + 1, 3, none⟩ (.int .u64 (sumQ q (wordsB s)).d)) = putQ W (w.heap.size + 1) (sumQ q (wordsB s)) from rfl]
    have hK' : (putQ W (w.heap.size + 1) (sumQ q (wordsB s))).heap[D]? = some (.deferred (some [])) := (putQ_heap (by omega) _).trans hK
    have hB' : Below w.heap.size w (putQ W (w.heap.size + 1) (sumQ q (wordsB s))) := hB.trans (putQ_below (by omega) _)
    have hH := (HR.out.put (sumQ q (wordsB s))).below (below_putObj (Below.refl D _) (Nat.le_refl D) (.deferred none)) (by omega)
    generalize putQ W (w.heap.size + 1) (sumQ q (wordsB s)) = W9 at hK' hB' hH
    refine ⟨by simp, .inl ⟨_, _, rfl, run_takeDeferred hK', ?_⟩⟩
    refine ⟨_, ?_, rfl, below_putObj hB' (by omega) _⟩
    simp [results, Try.f22, go_sem, hH.c0, hH.c1, hH.c2, hH.c3]
  case stop =>
    rintro D c k W _ _ h _
    exact h.elim
end Go.Proofs.Ytomdfgfappoiiaa
