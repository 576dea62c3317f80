/-
  vdev.New: the groups are cloned; a pool grows device by device.
  vdev.New: the walk.
-/
import Derived.Test.YtiffkbmcikiioaaGreatY31
import Derived.Test.YtiffkbmcikiioaaGreatY16

/- vdev.New: the groups are cloned; a pool grows device by device. -/
namespace Go.Proofs.YtiffkbmcikiioaaGreat
set_option maxRecDepth 100000
open Go.RowKit Go.Maps M

def flatG (l : List (Int × Int)) : List Value := l.flatMap fun p => [.int .i64 p.1, .int .i64 p.2]
theorem flatG_len (l : List (Int × Int)) : (flatG l).length = l.length * 2 := by
  induction l with
  | nil => rfl
  | cons p r ih => simp only [flatG, List.flatMap_cons, List.length_append, List.length_cons, List.length_nil] at ih ⊢; omega
theorem flatG_at (l : List (Int × Int)) (i : Nat) (hi : i < l.length) (j : Nat) (hj : j < 2) : (flatG l)[i * 2 + j]? = ([Value.int .i64 l[i].1, .int .i64 l[i].2])[j]? := by
  induction l generalizing i with
  | nil => simp at hi
  | cons s r ih =>
    cases i with
    | zero =>
      simp only [flatG, List.flatMap_cons, List.getElem_cons_zero, Nat.zero_mul, Nat.zero_add]
      rw [List.getElem?_append_left (by simpa using hj)]
    | succ i =>
      simp only [flatG, List.flatMap_cons, List.getElem_cons_succ]
      rw [List.getElem?_append_right (by simp; omega), show (i + 1) * 2 + j - ([Value.int .i64 s.1, .int .i64 s.2]).length = i * 2 + j by simp; omega]
      exact ih i (by simpa using hi)
theorem flatG_one (l : List (Int × Int)) : ∀ v ∈ flatG l, v.oneCell' = true := by
  intro v hv
  obtain ⟨s, _, h⟩ := List.mem_flatMap.1 hv
  simp at h
  rcases h with rfl | rfl <;> rfl
theorem info_grp : ∃ i, Tryz.prog.info? 53 = some i ∧ i.zero = some (.agg #[.int .i64 0, .int .i64 0]) ∧ i.size = 2 ∧ i.bytes = 16 := info_parts (by kernel_rfl)
theorem grp_nil (w : World) (a : Addr) (n c : Nat) : (binOp .eql 22 (.slice (some a) n c) (.slice none 0 0)).run Tryz.prog w = .ok (.bool false) w := by kernel_rfl

theorem clone_grp (l : List (Int × Int)) (g o n c : Nat) (w : World) (h : Grps w (some ⟨g, o, none⟩) n l) (h0 : 0 < n) (hm : n ≤ 4) :
    Calls Tryz.prog 56 #[.slice (some ⟨g, o, none⟩) n c] w fun e w' => ∃ g' c', e = .returned (.slice (some ⟨g', 0, none⟩) n c') ∧ w.heap.size ≤ g' ∧ New w.heap.size w' (fun w => Grps w (some ⟨g', 0, none⟩) n l) ∧ Below w.heap.size w w' := by
  have hq := grp_nil w ⟨g, o, none⟩ n c
  obtain ⟨i, hi, hz, hsz, hb⟩ := info_grp
  have HG := Lib.hid h
  have hl := h.2.1
  have hcell : ∀ j u, (flatG l)[j]? = some u → (w.alloc (.cells #[] 53)).cell? ((⟨g, o, none⟩ : Addr).add j) = some u := fun j u hj => by
    have hlt : j < l.length * 2 := by rw [← flatG_len]; exact (List.getElem?_eq_some_iff.1 hj).1
    obtain ⟨g', o', ha, hx⟩ := h.2.2 (j / 2) (by omega)
    simp only [Option.some.injEq, Addr.mk.injEq, and_true] at ha
    obtain ⟨rfl, rfl⟩ := ha
    have hx' := hx.below (boxed w (.cells #[] 53))
    have e := flatG_at l (j / 2) (by omega) (j % 2) (Nat.mod_lt _ (by decide))
    rw [show j / 2 * 2 + j % 2 = j by omega, hj] at e
    rw [Go.WideShapes.add_plain, e]
    rcases Nat.mod_two_eq_zero_or_one j with e2 | e2
    · rw [e2, show o + j = o + j / 2 * 2 by omega, hx'.c0]; rfl
    · rw [e2, show o + j = o + j / 2 * 2 + 1 by omega, hx'.c1]; rfl
  have HC := Lib.hid hcell
  have hown : (w.alloc (.cells #[] 53)).ownsRow w.heap.size 53 2 (.slice (some ⟨w.heap.size, 0, none⟩) 0 0) 0 [] := by
    have := World.ownsRow_lit (base := w.heap.size) (e := 53) (size := 2) w #[] 0 (Nat.le_refl _) (by decide) (by simp)
    simpa using this
  have HO := Lib.hid hown
  have HL := Lib.hid hl
  clear h hcell hown hl
  go_enter Tryz.func56, Tryz.ntmps56
  go_wp2_with (at_builtin; refine wpList_append_own_at _ rfl _ _ _ rfl w.heap.size 53 i _ 2 16 Tryz.underlying22 hi hz hsz hb rfl (by decide) _ 0 [] rfl HO.out ⟨g, o, none⟩ n c (flatG l) rfl (by rw [flatG_len, HL.out]) HC.out (flatG_one l) (by unfold maxLen; omega) (by omega) (by simp) ?_; intro v4 w4 hO4 hg4 _ _)
  have hb4 : Below w.heap.size w w4 := (boxed w _).trans ((Below.refl w.heap.size _).grown hg4 (by simp) fun k hk => (World.ownsRow.lt HO.out k hk).1)
  have HB4 := Lib.hid hb4
  rw [Nat.zero_add, List.nil_append] at hO4
  have hcl := fun g hg => World.ownsRow.cells (g := g) hO4 hg
  rcases hO4.2 with ⟨_, hn0⟩ | ⟨g', cap, cur, rfl, hgB, hgh, hnc, _⟩
  · omega
  · have hcl := hcl g' rfl
    have HN : Hid (New w.heap.size w4 (fun w => Grps w (some ⟨g', 0, none⟩) n l)) := Lib.hid fun w' hz hbk => by
      obtain ⟨g1, g2, g3⟩ := HG.out
      have hlt := (Array.getElem?_eq_some_iff.1 hgh).1
      have hc : ∀ j u, (flatG l)[j]? = some u → w'.cell? ⟨g', j, none⟩ = some u := fun j u hj => by
        have := hcl j u hj
        rw [Go.WideShapes.add_plain, Nat.zero_add] at this
        rw [World.cell?_of_block (w := w4) (hbk g' hgB hlt)]
        exact this
      refine ⟨g1, g2, fun i hi => ?_⟩
      obtain ⟨_, _, _, hx⟩ := g3 i hi
      refine ⟨g', 0, rfl, Nat.lt_of_lt_of_le hlt hz, ?_, ?_, hx.k0, hx.k1, hx.w0, hx.w1⟩
      · have := flatG_at l i hi 0 (by omega)
        rw [Nat.add_zero] at this
        rw [Nat.zero_add]
        exact hc _ _ this
      · have := flatG_at l i hi 1 (by omega)
        rw [Nat.zero_add]
        exact hc _ _ this
    have HGB := Lib.hid hgB
    clear hcl hO4 hgh hg4 hb4
    go_wp2
    go_ret
    exact ⟨_, _, rfl, HGB.out, HN.out, HB4.out⟩

/-- A pool's next device. -/
theorem StG.grow {m : Nat} {X : Nat → Prop} {B : Nat} {w w' : World} {x : Px} {l : List (Int × Int)} {ds : Nat → Dv} {aw : Nat → Bool} {K : Nat} {P : World → Prop} (h : StG m X B w x l ds aw K P) (hb : Below w.heap.size w w') {b : Nat} {S : Dv} {f : Nat → Prop} (hd : DevAt w' b S f) (hf : ∀ k, f k → w.heap.size ≤ k)
    {u : Value} (hc : w'.cell? ⟨x.lb, m, none⟩ = some u) (hz : w'.frozen? ⟨x.lb, m, none⟩ = false) (hg : DGood x.sc K S) :
    StG (m + 1) X B (w'.setCell ⟨x.lb, m, none⟩ (.pointer (some ⟨b, 0, none⟩))) x l (upd ds m S) aw K P := by
  have hB := h.lt.2
  have h' := h.below hb
  obtain ⟨fp, F, bs, h⟩ := h
  have hF : ∀ i k, i < m → F i k → k < w.heap.size := fun i k hi hk => h.lt k (h.fpF i k hi hk)
  have hfl : ∀ k, f k → k < w'.heap.size := fun k hk => by
    obtain ⟨_, _, _, _, hin⟩ := hd
    exact hin.lt k hk
  have hlb : x.lb < w.heap.size := h.lt _ h.fpl
  have hab : x.ab < w.heap.size := h.lt _ h.fpa
  have ho : ∀ k, k ≠ x.lb → (w'.setCell ⟨x.lb, m, none⟩ (.pointer (some ⟨b, 0, none⟩))).heap[k]? = w'.heap[k]? := fun k hk => Below.heap_setCell _ _ _ _ hk
  have hsz : (w'.setCell ⟨x.lb, m, none⟩ (.pointer (some ⟨b, 0, none⟩))).heap.size = w'.heap.size := by simp [World.setCell]
  have hle := hb.size
  have t : Turn fp w (w'.setCell ⟨x.lb, m, none⟩ (.pointer (some ⟨b, 0, none⟩))) := (Turn.of_below (fp := fp) hb).setCell (.inl h.fpl) _
  refine ⟨fun k => fp k ∨ f k, upd F m f, upd bs m b, ⟨?_, (h.awy.same (hb.block _ hab)).same (ho _ h.lbab.symm), fun j hj => ?_, fun j hj => ?_, ?_, fun j hj => ?_, fun j hj => ?_, h.lbab, fun j k hj hk => ?_, .inl h.fpl, .inl h.fpa, fun k hk => ?_, fun k hk => ?_, fun k hk => .inl (h.xfp k hk), fun j k hj hk => ?_, h.xl, h.xa, h.keep.turn (t.mono fun _ hk => .inl hk) fun k hk => ?_⟩⟩
  · refine ⟨fun i hi => ?_, fun i hi => ?_⟩
    · by_cases e : i = m
      · subst e
        rw [World.cell?_setCell_same _ _ _ hc, upd_same]
      · rw [World.cell?_setCell_other _ _ _ _ (by intro h; apply e; cases h; rfl), upd_other _ _ e, (h.ptr.same (hb.block _ hlb)).c i (by omega)]
    · rw [World.frozen?_setCell]
      by_cases e : i = m
      · subst e; exact hz
      · exact (h.ptr.same (hb.block _ hlb)).fz i (by omega)
  · by_cases e : j = m
    · subst e
      rw [upd_same, upd_same, upd_same]
      exact hd.same (by rw [hsz]; exact Nat.le_refl _) fun k hk => ho k fun e => by have := hf k hk; omega
    · rw [upd_other _ _ e, upd_other _ _ e, upd_other _ _ e]
      exact (h.dev j (by omega)).same (by rw [hsz]; exact hle) fun k hk => (ho k fun e2 => h.lbF j (by omega) (e2 ▸ hk)).trans (hb.block k (hF j k (by omega) hk))
  · by_cases e : j = m
    · subst e; rw [upd_same]; exact hg
    · rw [upd_other _ _ e]; exact h.good j (by omega)
  · intro a c k ha hc h1 h2
    by_cases ea : a = m
    · by_cases ec : c = m
      · rw [ea, ec]
      · subst ea
        rw [upd_same] at h1
        rw [upd_other _ _ ec] at h2
        have := hf k h1
        have := hF c k (by omega) h2
        omega
    · rw [upd_other _ _ ea] at h1
      by_cases ec : c = m
      · subst ec
        rw [upd_same] at h2
        have := hf k h2
        have := hF a k (by omega) h1
        omega
      · rw [upd_other _ _ ec] at h2
        exact h.apart a c k (by omega) (by omega) h1 h2
  · by_cases e : j = m
    · subst e; rw [upd_same]; intro e2; have := hf _ e2; omega
    · rw [upd_other _ _ e]; exact h.lbF j (by omega)
  · by_cases e : j = m
    · subst e; rw [upd_same]; intro e2; have := hf _ e2; omega
    · rw [upd_other _ _ e]; exact h.abF j (by omega)
  · by_cases e : j = m
    · subst e; rw [upd_same] at hk; exact .inr hk
    · rw [upd_other _ _ e] at hk; exact .inl (h.fpF j k (by omega) hk)
  · rw [hsz]
    rcases hk with hk | hk
    · exact Nat.lt_of_lt_of_le (h.lt k hk) hle
    · exact hfl k hk
  · rcases hk with hk | hk
    · exact h.ge k hk
    · have := hf k hk; omega
  · by_cases e : j = m
    · subst e; rw [upd_same]; intro e2; have := hf _ e2; have := h.lt _ (h.xfp k hk); omega
    · rw [upd_other _ _ e]; exact h.xF j k (by omega) hk
  · rcases hk with (hk | hk) | hk
    · exact .inl (.inl hk)
    · exact .inr (hf k hk)
    · exact .inl (.inr hk)
/-- A pool of no devices yet. -/
theorem StG.start {X : Nat → Prop} {B : Nat} {w : World} {x : Px} {l : List (Int × Int)} {ds : Nat → Dv} {aw : Nat → Bool} {P : World → Prop} (hA : RowV w x.ab x.n (fun i => .bool (aw i))) (hne : x.lb ≠ x.ab) (l1 : x.lb < w.heap.size) (l2 : x.ab < w.heap.size) (g1 : B ≤ x.lb) (g2 : B ≤ x.ab)
    (xl : ¬ X x.lb) (xa : ¬ X x.ab) (xlt : ∀ k, X k → k < w.heap.size) (xge : ∀ k, X k → B ≤ k) (hk : Keep (fun k => (k = x.lb ∨ k = x.ab ∨ X k) ∨ k < B) w (fun w => Meas w x.g l x.sc ∧ P w)) : StG 0 X B w x l ds aw 0 P :=
  ⟨fun k => k = x.lb ∨ k = x.ab ∨ X k, fun _ _ => False, fun _ => 0, ⟨⟨fun i hi => absurd hi (Nat.not_lt_zero _), fun i hi => absurd hi (Nat.not_lt_zero _)⟩, hA, fun i hi => absurd hi (Nat.not_lt_zero _), fun i hi => absurd hi (Nat.not_lt_zero _), fun i _ _ hi => absurd hi (Nat.not_lt_zero _), fun i hi => absurd hi (Nat.not_lt_zero _), fun i hi => absurd hi (Nat.not_lt_zero _), hne, fun i _ hi => absurd hi (Nat.not_lt_zero _), .inl rfl, .inr (.inl rfl),
    fun k hk => by rcases hk with rfl | rfl | hk; exact l1; exact l2; exact xlt k hk, fun k hk => by rcases hk with rfl | rfl | hk; exact g1; exact g2; exact xge k hk, fun k hk => .inr (.inr hk), fun i _ hi => absurd hi (Nat.not_lt_zero _), xl, xa, hk⟩⟩
end Go.Proofs.YtiffkbmcikiioaaGreat

/- vdev.New: the walk. -/
namespace Go.Proofs.YtiffkbmcikiioaaGreat
set_option maxRecDepth 100000
open Go.RowKit Go.Maps M

def ptrsO (n : Nat) : Obj := .cells (madeCells #[.pointer none] n) 42
def marksO (n : Nat) : Obj := .cells (madeCells #[.bool false] n) 4
theorem make_ptrs (w : World) (n : Nat) (hn : n ≤ 4096) : (Instr.makeSlice 35 (.int .i64 (n : Int)) (.int .i64 (n : Int))).run Tryz.prog w = .ok (.slice (some ⟨w.heap.size, 0, none⟩) n n) (w.alloc (ptrsO n)) := by
  obtain ⟨i, hi, hz, hs, hb⟩ := info_parts (P := Tryz.prog) (e := 42) (z := .pointer none) (size := 1) (bytes := 8) (by kernel_rfl)
  have := run_make (P := Tryz.prog) w 35 42 i _ Tryz.underlying35 hi hz .i64 .i64 n n (by omega) (by omega) (by rw [hb]; omega) (by omega)
  rw [this, hs, Nat.mul_one]
  rfl
theorem make_marks (w : World) (n : Nat) (hn : n ≤ 4096) : (Instr.makeSlice 32 (.int .i64 (n : Int)) (.int .i64 (n : Int))).run Tryz.prog w = .ok (.slice (some ⟨w.heap.size, 0, none⟩) n n) (w.alloc (marksO n)) := by
  obtain ⟨i, hi, hz, hs, hb⟩ := info_parts (P := Tryz.prog) (e := 4) (z := .bool false) (size := 1) (bytes := 1) (by kernel_rfl)
  have := run_make (P := Tryz.prog) w 32 4 i _ Tryz.underlying32 hi hz .i64 .i64 n n (by omega) (by omega) (by rw [hb]; omega) (by omega)
  rw [this, hs, Nat.mul_one]
  rfl
/-- What a pool's measure, its slices and its box are, as far as they are made. -/
structure Prog (w4 : World) (l : List (Int × Int)) (gn N : Nat) (V : World) (lb ab : Option Nat) (gg : Option Nat) (bx : Option (Nat × Array Value)) : Prop where
  bel : Below w4.heap.size w4 V
  pl : ∀ b, lb = some b → V.heap[b]? = some (ptrsO N) ∧ w4.heap.size ≤ b
  pa : ∀ b, ab = some b → V.heap[b]? = some (marksO N) ∧ w4.heap.size ≤ b
  pg : ∀ p, gg = some p → Grps V (some ⟨p, 0, none⟩) gn l ∧ p < V.heap.size ∧ w4.heap.size ≤ p
  pb : ∀ p, bx = some p → V.heap[p.1]? = some (.cells p.2 37) ∧ w4.heap.size ≤ p.1
  nl : ∀ p b, gg = some p → lb = some b → p ≠ b
  na : ∀ p b, gg = some p → ab = some b → p ≠ b
  nb : ∀ p q, gg = some p → bx = some q → p ≠ q.1
theorem lt_of_some {V : World} {b : Nat} {o : Obj} (h : V.heap[b]? = some o) : b < V.heap.size := (Array.getElem?_eq_some_iff.1 h).1
section
variable {w4 V V' : World} {l : List (Int × Int)} {gn N : Nat} {lb ab : Option Nat} {gg : Option Nat} {bx : Option (Nat × Array Value)}
theorem Prog.next (h : Prog w4 l gn N V lb ab gg bx) (hb : Below V.heap.size V V') : Prog w4 l gn N V' lb ab gg bx :=
  ⟨Proofs.YtiffkbmcikiioaaGreat.next h.bel hb, fun b e => ⟨(hb.block b (lt_of_some (h.pl b e).1)).trans (h.pl b e).1, (h.pl b e).2⟩, fun b e => ⟨(hb.block b (lt_of_some (h.pa b e).1)).trans (h.pa b e).1, (h.pa b e).2⟩, fun p e => ⟨(h.pg p e).1.below hb, Nat.lt_of_lt_of_le (h.pg p e).2.1 hb.size, (h.pg p e).2.2⟩, fun p e => ⟨(hb.block p.1 (lt_of_some (h.pb p e).1)).trans (h.pb p e).1, (h.pb p e).2⟩, h.nl, h.na, h.nb⟩
theorem p_none (hb : Below w4.heap.size w4 V) : Prog w4 l gn N V none none none none := ⟨hb, (fun _ e => nomatch e), (fun _ e => nomatch e), (fun _ e => nomatch e), (fun _ e => nomatch e), (fun _ _ e => nomatch e), (fun _ _ e => nomatch e), (fun _ _ e => nomatch e)⟩
theorem p_drew (h : Prog w4 l gn N V lb ab gg bx) : Prog w4 l gn N V.drew lb ab gg bx := h.next (Below.refl _ V).drew
theorem p_ptrs (h : Prog w4 l gn N V none ab gg bx) : Prog w4 l gn N (V.alloc (ptrsO N)) (some V.heap.size) ab gg bx := by
  have h' := h.next (boxed V (ptrsO N))
  exact ⟨h'.bel, fun b e => by cases e; exact ⟨heap_alloc_new V _, h.bel.size⟩, h'.pa, h'.pg, h'.pb, fun p b e1 e2 => by cases e2; have := (h.pg p e1).2.1; omega, h.na, h.nb⟩
theorem p_marks (h : Prog w4 l gn N V lb none gg bx) : Prog w4 l gn N (V.alloc (marksO N)) lb (some V.heap.size) gg bx := by
  have h' := h.next (boxed V (marksO N))
  exact ⟨h'.bel, h'.pl, fun b e => by cases e; exact ⟨heap_alloc_new V _, h.bel.size⟩, h'.pg, h'.pb, h.nl, fun p b e1 e2 => by cases e2; have := (h.pg p e1).2.1; omega, h.nb⟩
theorem p_box {b : Nat} {cs : Array Value} (h : Prog w4 l gn N V lb ab gg none) (hb : b = V.heap.size) : Prog w4 l gn N (V.alloc (.cells cs 37)) lb ab gg (some (b, cs)) := by
  subst hb
  have h' := h.next (boxed V (.cells cs 37))
  exact ⟨h'.bel, h'.pl, h'.pa, h'.pg, fun p e => by cases e; exact ⟨heap_alloc_new V _, h.bel.size⟩, h.nl, h.na, fun p q e1 e2 => by cases e2; have := (h.pg p e1).2.1; show p ≠ V.heap.size; omega⟩
theorem p_clone {g' : Nat} (h : Prog w4 l gn N V lb ab none bx) (hb : Below V.heap.size V V') (hn : New V.heap.size V' (fun w => Grps w (some ⟨g', 0, none⟩) gn l)) (hg : V.heap.size ≤ g' ∧ g' < V'.heap.size) : Prog w4 l gn N V' lb ab (some g') bx := by
  have h' := h.next hb
  refine ⟨h'.bel, h'.pl, h'.pa, fun p e => by cases e; exact ⟨hn.out, hg.2, Nat.le_trans h.bel.size hg.1⟩, h'.pb, fun p b e1 e2 => ?_, fun p b e1 e2 => ?_, fun p q e1 e2 => ?_⟩
  · cases e1
    have := lt_of_some (h.pl b e2).1
    show g' ≠ b
    omega
  · cases e1
    have := lt_of_some (h.pa b e2).1
    show g' ≠ b
    omega
  · cases e1
    have := lt_of_some (h.pb q e2).1
    show g' ≠ q.1
    omega
theorem p_sets {b : Nat} {v0 v1 v2 v3 : Value} (h : Prog w4 l gn N V lb ab gg (some (b, #[.slice none 0 0, .int .i64 0, .slice none 0 0, .slice none 0 0]))) : Prog w4 l gn N ((((V.setCell ⟨b, 0, none⟩ v0).setCell ⟨b, 1, none⟩ v1).setCell ⟨b, 2, none⟩ v2).setCell ⟨b, 3, none⟩ v3) lb ab gg (some (b, #[v0, v1, v2, v3])) := by
  obtain ⟨hb, hge⟩ := h.pb _ rfl
  have ho : ∀ k, k ≠ b → ((((V.setCell ⟨b, 0, none⟩ v0).setCell ⟨b, 1, none⟩ v1).setCell ⟨b, 2, none⟩ v2).setCell ⟨b, 3, none⟩ v3).heap[k]? = V.heap[k]? := fun k hk => by
    rw [Below.heap_setCell _ _ _ _ hk, Below.heap_setCell _ _ _ _ hk, Below.heap_setCell _ _ _ _ hk, Below.heap_setCell _ _ _ _ hk]
  have hz : ((((V.setCell ⟨b, 0, none⟩ v0).setCell ⟨b, 1, none⟩ v1).setCell ⟨b, 2, none⟩ v2).setCell ⟨b, 3, none⟩ v3).heap.size = V.heap.size := by simp [World.setCell]
  have hnew : ((((V.setCell ⟨b, 0, none⟩ v0).setCell ⟨b, 1, none⟩ v1).setCell ⟨b, 2, none⟩ v2).setCell ⟨b, 3, none⟩ v3).heap[b]? = some (.cells #[v0, v1, v2, v3] 37) := by
    simp only [World.setCell, Array.getElem?_modify, hb]
    simp
  refine ⟨grows_set (grows_set (grows_set (grows_set h.bel hge _) hge _) hge _) hge _, fun k e => ?_, fun k e => ?_, fun p e => ?_, fun p e => ?_, h.nl, h.na, fun p q e1 e2 => ?_⟩
  · obtain ⟨h1, h2⟩ := h.pl k e
    refine ⟨(ho k fun e2 => ?_).trans h1, h2⟩
    rw [e2, hb] at h1
    simp only [ptrsO, Option.some.injEq, Obj.cells.injEq] at h1
    exact absurd h1.2.1 (by decide)
  · obtain ⟨h1, h2⟩ := h.pa k e
    refine ⟨(ho k fun e2 => ?_).trans h1, h2⟩
    rw [e2, hb] at h1
    simp only [marksO, Option.some.injEq, Obj.cells.injEq] at h1
    exact absurd h1.2.1 (by decide)
  · obtain ⟨⟨g1, g2, g3⟩, h2⟩ := h.pg p e
    have hne : p ≠ b := h.nb p _ e rfl
    refine ⟨⟨g1, g2, fun i hi => ?_⟩, by rw [hz]; exact h2.1, h2.2⟩
    obtain ⟨g, o, ha, hx⟩ := g3 i hi
    have hg : g = p := by simp only [Option.some.injEq, Addr.mk.injEq, and_true] at ha; exact ha.1.symm
    have e2 : ∀ j, ((((V.setCell ⟨b, 0, none⟩ v0).setCell ⟨b, 1, none⟩ v1).setCell ⟨b, 2, none⟩ v2).setCell ⟨b, 3, none⟩ v3).cell? ⟨g, j, none⟩ = V.cell? ⟨g, j, none⟩ := fun j => World.cell?_of_block (ho g (by rw [hg]; exact hne))
    exact ⟨g, o, ha, by rw [hz]; exact hx.lt, (e2 _).trans hx.c0, (e2 _).trans hx.c1, hx.k0, hx.k1, hx.w0, hx.w1⟩
  · cases e
    exact ⟨hnew, hge⟩
  · cases e2
    show p ≠ b
    exact h.nb p (b, #[.slice none 0 0, .int .i64 0, .slice none 0 0, .slice none 0 0]) e1 rfl
end
theorem row_ptrs {V : World} {n g : Nat} (h : V.heap[g]? = some (ptrsO n)) : RowV V g n (fun _ => .pointer none) := by
  unfold ptrsO at h
  exact ⟨fun i hi => by simp [World.cell?, h, madeCells, hi, Nat.mod_one], fun i hi => by simp [World.frozen?, h]⟩
theorem row_marks {V : World} {n g : Nat} (h : V.heap[g]? = some (marksO n)) : RowV V g n (fun _ => .bool false) := by
  unfold marksO at h
  exact ⟨fun i hi => by simp [World.cell?, h, madeCells, hi, Nat.mod_one], fun i hi => by simp [World.frozen?, h]⟩
theorem sets4 {V : World} {b : Nat} {t : TypeId} {u0 u1 u2 u3 : Value} (v0 v1 v2 v3 : Value) (hb : V.heap[b]? = some (.cells #[u0, u1, u2, u3] t)) : ((((V.setCell ⟨b, 0, none⟩ v0).setCell ⟨b, 1, none⟩ v1).setCell ⟨b, 2, none⟩ v2).setCell ⟨b, 3, none⟩ v3).heap[b]? = some (.cells #[v0, v1, v2, v3] t) := by
  simp only [World.setCell, Array.getElem?_modify, hb]
  simp
theorem turn4 (V : World) (b : Nat) (v0 v1 v2 v3 : Value) : Turn (fun k => k = b) V ((((V.setCell ⟨b, 0, none⟩ v0).setCell ⟨b, 1, none⟩ v1).setCell ⟨b, 2, none⟩ v2).setCell ⟨b, 3, none⟩ v3) := by
  have h0 : Turn (fun k => k = b) V V := Turn.refl _ V
  have h1 := h0.setCell (p := ⟨b, 0, none⟩) (.inl rfl) v0
  have h2 := h1.setCell (p := ⟨b, 1, none⟩) (.inl rfl) v1
  have h3 := h2.setCell (p := ⟨b, 2, none⟩) (.inl rfl) v2
  exact h3.setCell (p := ⟨b, 3, none⟩) (.inl rfl) v3
/-- What New has made ahead of its devices. -/
def NewRel (w4 : World) (l : List (Int × Int)) (sc : Int) (gn N : Nat) (s7 : Value) (wc : World) : Prop :=
  ∃ bx lb ab g' c', s7 = .pointer (some ⟨bx, 0, none⟩) ∧ BoxX ⟨some ⟨g', 0, none⟩, gn, c', sc, lb, N, ab⟩ bx wc ∧ RowV wc lb N (fun _ => .pointer none) ∧ RowV wc ab N (fun _ => .bool false) ∧ Grps wc (some ⟨g', 0, none⟩) gn l ∧
    (lb ≠ ab ∧ bx ≠ lb ∧ bx ≠ ab ∧ g' ≠ lb ∧ g' ≠ ab ∧ w4.heap.size ≤ lb ∧ w4.heap.size ≤ ab ∧ w4.heap.size ≤ bx ∧ lb < wc.heap.size ∧ ab < wc.heap.size ∧ w4.heap.size ≤ g') ∧ Below w4.heap.size w4 wc
theorem prog_done {w4 V : World} {l : List (Int × Int)} {sc : Int} {gn N lb ab g' c' b : Nat} {v0 v1 v2 v3 s7 : Value} (h : Prog w4 l gn N V (some lb) (some ab) (some g') (some (b, #[v0, v1, v2, v3])))
    (e0 : v0 = .slice (some ⟨g', 0, none⟩) gn c') (e1 : v1 = .int .i64 sc) (e2 : v2 = .slice (some ⟨lb, 0, none⟩) N N) (e3 : v3 = .slice (some ⟨ab, 0, none⟩) N N) (e : s7 = .pointer (some ⟨b, 0, none⟩)) : NewRel w4 l sc gn N s7 V := by
  subst e0 e1 e2 e3 e
  obtain ⟨hl, hl'⟩ := h.pl _ rfl
  obtain ⟨ha, ha'⟩ := h.pa _ rfl
  obtain ⟨hg, hg'⟩ := h.pg _ rfl
  obtain ⟨hb, hb'⟩ := h.pb _ rfl
  refine ⟨b, lb, ab, g', c', rfl, ⟨by simp [World.cell?, hb], by simp [World.cell?, hb], by simp [World.cell?, hb], by simp [World.cell?, hb]⟩, row_ptrs hl, row_marks ha, hg, ⟨fun e => ?_, fun e => ?_, fun e => ?_, h.nl _ _ rfl rfl, h.na _ _ rfl rfl, hl', ha', hb', lt_of_some hl, lt_of_some ha, hg'.2⟩, h.bel⟩
  · rw [e, ha] at hl
    simp only [ptrsO, marksO, Option.some.injEq, Obj.cells.injEq] at hl
    exact absurd hl.2.1 (by decide)
  · subst e
    rw [hl] at hb
    simp only [ptrsO, Option.some.injEq, Obj.cells.injEq] at hb
    exact absurd hb.2.1 (by decide)
  · subst e
    rw [ha] at hb
    simp only [marksO, Option.some.injEq, Obj.cells.injEq] at hb
    exact absurd hb.2.1 (by decide)

end Go.Proofs.YtiffkbmcikiioaaGreat
