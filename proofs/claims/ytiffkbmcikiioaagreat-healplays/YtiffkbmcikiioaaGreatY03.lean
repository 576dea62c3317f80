/-
  Write: the walk.
  settle.
  Flush.
  Flush: the walk.
-/
import Derived.Test.YtiffkbmcikiioaaGreatY02
import Derived.Great.BuildSlice

/- Write: the walk. -/
namespace Go.Proofs.YtiffkbmcikiioaaGreat
set_option maxRecDepth 100000
open Go.RowKit Go.Maps

theorem run_one (W : World) (x : Sec) (hx : x.length = 64) :
    (Instr.buildSlice 98 1 #[(0, .agg (secCells x).toArray)]).run Tryz.prog W = .ok (.slice (some ⟨W.heap.size, 0, none⟩) 1 1) (W.alloc (.cells (secCells x).toArray 103)) := by
  obtain ⟨i, z, hi, hz, hs, hb, hzs⟩ := info_sec
  refine run_buildSlice W 98 103 1 _ _ i z Tryz.underlying98 hi hz (by rw [hs]; omega) (by rw [hs]; omega) ?_
  rw [hs]
  have := Great.fill_whole (s := 64) (by decide) [.agg (secCells x).toArray] ((Array.range (1 * 64)).map (z.cells[· % z.cells.size]!)) (fun v hv => by
    rw [List.mem_singleton.1 hv]; simp [Value.cells, secCells_len, hx]) (by simp)
  simpa [Value.cells] using this
theorem fold_set (cs : List Value) : ∀ (k : Nat) (init : Array Value), k + cs.length = init.size → (List.foldl (fun (c : Array Value) (x : Value × Nat) => c.setIfInBounds x.snd x.fst) init (cs.zipIdx k)).toList = init.toList.take k ++ cs := by
  induction cs with
  | nil => intro k init h; simp at h ⊢; rw [h, List.take_of_length_le (by simp)]
  | cons v r ih =>
    intro k init h
    simp only [List.zipIdx_cons, List.foldl_cons]
    simp only [List.length_cons] at h
    rw [ih (k + 1) _ (by simp; omega)]
    rw [Array.toList_setIfInBounds]
    apply List.ext_getElem?
    intro j
    have hk : k < init.toList.length := by simp; omega
    rcases Nat.lt_trichotomy j k with hj | rfl | hj
    · rw [List.getElem?_append_left (by simp; omega), List.getElem?_take_of_lt (by omega), List.getElem?_set_ne (by omega), List.getElem?_append_left (by simp; omega), List.getElem?_take_of_lt hj]
    · rw [List.getElem?_append_left (by simp; omega), List.getElem?_take_of_lt (by omega), List.getElem?_set_self hk, List.getElem?_append_right (by simp; omega)]
      simp
      rw [Nat.min_eq_left (by simpa using Nat.le_of_lt hk)]
      simp
    · rw [List.getElem?_append_right (by simp; omega), List.getElem?_append_right (by simp; omega)]
      simp only [List.length_take, List.length_set]
      rw [Nat.min_eq_left (by omega), Nat.min_eq_left (by omega), show j - k = (j - (k + 1)) + 1 by omega, List.getElem?_cons_succ]
theorem fold_whole (cs : List Value) (init : Array Value) (h : cs.length = init.size) : List.foldl (fun (c : Array Value) (x : Value × Nat) => c.setIfInBounds x.snd x.fst) init cs.zipIdx = cs.toArray := by
  apply Array.ext'
  rw [fold_set cs 0 init (by omega)]
  simp
theorem there_new (W : World) (cs : Array Value) (t : TypeId) (n : Nat) (h : cs.size = n) : (W.alloc (.cells cs t)).there W.heap.size 0 n := fun j hj => by
  have hh := heap_alloc_new W (.cells cs t)
  refine ⟨?_, by unfold World.frozen?; simp only [hh]; simp⟩
  unfold World.cell?
  simp only [hh]
  simp
  omega
theorem sec_len (s : ByteArray) (h : s.size = 64) : s.data.toList.length = 64 := by rw [← h, Array.length_toList]; rfl
theorem size_u8 (w : World) : (Go.sizeOf 5).run Tryz.prog w = .ok 1 w := by kernel_rfl
theorem wpList_copy_ver {ops : Array Oper} {rest : List Oper} {o : Oper} {a : Act} {Q : Exit → Act → World → Prop} (w1 : World) (cs : Array Value) (hcs : cs.size = 64) (s : ByteArray) (hs : s.size = 64) (hgd : o.guard = none) (d x : Operand)
    (ho : o.op = .call { callee := .builtin .copy, args := #[d, x], argTypes := #[79, 9] }) (hd : a.eval d = .slice (some ⟨w1.heap.size, 0, none⟩) 64 64) (hx : a.eval x = .string s)
    (h : ∀ w2, Below w1.heap.size w1 w2 → w2.rangeAt w1.heap.size 0 (secCells s.data.toList) → w1.heap.size < w2.heap.size → wpList Tryz.prog ops Q rest (a.put o.dst (goInt 64)) w2) :
    wpList Tryz.prog ops Q (o :: rest) a (w1.alloc (.cells cs 103)) := by
  have ht := there_new w1 cs 103 64 hcs
  have hr := Go.run_copy_string (P := Tryz.prog) (w1.alloc (.cells cs 103)) 79 9 o.type 5 w1.heap.size 0 64 64 s Tryz.underlying79 size_u8 (by omega) (fun j hj => (ht j (by omega)).1) (fun j hj => (ht j (by omega)).2)
  rw [hs] at hr
  refine Lib.wpList_copy_run _ hgd d x _ _ ho _ _ hd hx hr (h _ ?_ ?_ ?_)
  · exact Lib.below_setCells _ (Nat.le_refl _) _ _ ((Below.refl _ w1).alloc (Nat.le_refl _) _)
  · exact World.rangeAt_setCells_same _ _ _ _ (by
      have : (s.data.toList.map fun x => Value.int .u8 (x.toNat : Int)).length = 64 := by rw [List.length_map]; exact sec_len s hs
      rw [this]; exact ht)
  · rw [(heap_setCells _ _ _ _).1]; simp

theorem step_append_runD {P : Program} {ops : Array Oper} {o : Oper} {a : Act} {w : World} {K : Act → World → Prop} {Q : Exit → Act → World → Prop} {E : Prop} (hg : o.guard = none) (s x : Operand) (t : TypeId)
    (hop : o.op = Op.call { callee := Callee.builtin Builtin.append, args := #[s, x], argTypes := #[t, t] }) (v xv : Value) (hs : a.eval s = v) (hx : a.eval x = xv) (r : Value) (w' : World)
    (hr : (Builtin.append_ #[t, t] o.type #[v, xv]).run P w = .ok r w') (hK : K (a.put o.dst r) w') : if Region.wanted o (yielded ops a.tmps) = true then Oper.wp P o a w K Q else E := by
  have hw : Region.wanted o (yielded ops a.tmps) = true := by simp [Region.wanted, hg]
  rw [if_pos hw]
  exact Lib.wp_append_run w s x t t hop v xv hs hx r w' hr hK
theorem Turn.range {fp : Nat → Prop} {w w' : World} (h : Turn fp w w') {g o : Nat} {cs : List Value} (hr : w.rangeAt g o cs) (hg : ¬ fp g) : w'.rangeAt g o cs := fun j v hv => by
  have h1 := hr j v hv
  rw [World.cell?_of_block (w := w) (h.block g (World.block_lt_of_cell? w _ h1) hg)]
  exact h1
theorem Did.turn {fp : Nat → Prop} {b : Nat} {S' : Dv} {w w' : World} (h : Did fp b S' w w') : Turn fp w w' := by
  obtain ⟨_, _, _, h⟩ := h
  exact h
theorem Did.pre {fp : Nat → Prop} {b : Nat} {S' : Dv} {a w w' : World} (t : Turn fp a w) (h : Did fp b S' w w') : Did fp b S' a w' := by
  obtain ⟨fp', h1, h2, h3⟩ := h
  exact ⟨fp', h1, fun k hk => (h2 k hk).imp id fun e => Nat.le_trans t.size e, t.trans h3 fun _ h => .inl h⟩
theorem range_new (W : World) (cs : List Value) (t : TypeId) : (W.alloc (.cells cs.toArray t)).rangeAt W.heap.size 0 cs := fun j v hv => by
  unfold World.cell?
  simp only [heap_alloc_new W (.cells cs.toArray t)]
  simpa using hv

set_option maxRecDepth 100000 in
set_option maxHeartbeats 1000000 in
theorem write_ok (b : Nat) (S : Dv) (fp : Nat → Prop) (k : Nat) (s : ByteArray) (w : World) (h : DevAt w b S fp) (hl : S.lost = false) (hk : k < S.med.length) (hs : s.size = 64) (hp : S.pass = true) (hc : S.cnt < 4294967296) :
    Calls Tryz.prog 87 #[.pointer (some ⟨b, 0, none⟩), .int .i64 (k : Int), .string s] w fun e w' => e = .returned (.int .i64 0) ∧ Did fp b (S.spent.put k s.data.toList) w w' := by
  have hR := reach_any b S fp k w h
  rw [show reachE S (k : Int) = 0 by unfold reachE; rw [hl]; simp; omega] at hR
  obtain ⟨mb, cb, m, hd, h⟩ := h
  have hP := pass_any b mb cb m hd S fp w h
  rw [hp] at hP
  have hs2 : ((s.size : Int) == 64) = true := by rw [hs]; rfl
  have hs3 : ((s.size : Int) != 64) = false := by rw [hs]; rfl
  have HS := Lib.hid hs
  have hfp := Lib.hid h.lt
  clear hs
  go_enter Tryz.func87, Tryz.ntmps87
  go_wp2_with fail
  refine hR.mono ?_
  rintro e w1 ⟨rfl, rfl⟩
  go_wp2_with fail
  refine hP.mono ?_
  rintro e w1 ⟨rfl, h1, t1, z1⟩
  have Z1 := Lib.hid z1
  clear hP hR z1
  go_wp2_with (first | (refine wpList_copy_ver w1 _ rfl s HS.out rfl _ _ rfl rfl rfl ?_; intro w2 b2 r2 z2))
  have h2 := h1.below b2
  have t2 : Turn fp w w2 := t1.trans (Turn.of_below (fp := fp) b2) fun _ h => .inl h
  have hvb : ¬ fp w1.heap.size := fun e => by have := hfp.out _ e; rw [← Z1.out] at this; omega
  generalize w1.heap.size = vb at *
  clear h1 b2 t1 Z1 h
  have hn2 := h2.ok.n2
  have hk2 : k < S.spent.med.length := hk
  have hx : s.data.toList.length = 64 := sec_len s HS.out
  have HX := Lib.hid hx
  have c1 := h2.c1
  have hA := (h2.below ((Below.refl _ w2).alloc (Nat.le_refl _) (.cells (secCells s.data.toList).toArray 103))).drew
  have tA : Turn fp w2 (w2.alloc (.cells (secCells s.data.toList).toArray 103)).drew := Turn.of_below ((Below.refl _ w2).alloc (Nat.le_refl _) _).drew
  have qA : (w2.alloc (.cells (secCells s.data.toList).toArray 103)).drew.rangeAt w2.heap.size 0 (secCells s.data.toList) := range_new w2 _ _
  have cA := hA.c1
  have rA := tA.range r2 hvb
  have hl1 := h2.drew.map.look (k : Int) (wfN k (by omega))
  have hl2 := hA.map.look (k : Int) (wfN k (by omega))
  have hu := Tryz.underlying103
  have hi : (Tryz.prog.info? 103).map (·.size) = some (secCells s.data.toList).length := by
    obtain ⟨i, z, hi, _, hs, _⟩ := info_sec
    rw [hi, secCells_len, HX.out, ← hs]; rfl
  have hlen : (secCells s.data.toList).length = 64 := by rw [secCells_len, HX.out]
  have HC := Lib.hid (fun ty => write_core hA k hk2 w2.heap.size s.data.toList HX.out qA hc ty)
  clear hx
  have HT := Lib.hid tA
  have HT2 := Lib.hid t2
  clear hA qA tA t2 h2
  generalize secCells s.data.toList = cs at *
  have hfold : ∀ init : Array Value, init.size = 64 → List.foldl (fun (c : Array Value) (x : Value × Nat) => c.setIfInBounds x.snd x.fst) init cs.zipIdx = cs.toArray := fun init hi => fold_whole cs init (by rw [hi]; exact hlen)
  generalize (hdOf S.spent hd (k : Int)).val = v0 at *
  go_region_held3 (fun w' => w'.cell? ⟨b, 1, none⟩ = some (.map (some cb)) ∧ w'.rangeAt vb 0 cs) (first | exact ⟨c1, r2⟩ | exact ⟨cA, rA⟩ | exact ⟨c3, r3⟩ | exact ⟨c4, r4⟩)
    (first | (obtain ⟨g, c, w3, w4, e1, e2, t3, c3, c4, hdid⟩ := HC.out 98; have r3 := t3.range rA hvb; have r4 := (Did.turn hdid).range rA hvb; have HD := Lib.hid hdid; clear hdid; refine step_append_runD rfl _ _ _ rfl _ _ rfl rfl _ _ e1 ?_))
  all_goals
    go_wp2
    go_ret
    exact ⟨rfl, Did.pre (HT2.out.trans HT.out fun _ h => .inl h) HD.out⟩
theorem spent_not {S : Dv} (h : S.pass = false) : S.spent = S := by
  unfold Dv.pass at h
  unfold Dv.spent
  cases S with | mk med since lost fused left cnt =>
  simp at h
  simp [h]
theorem write_no (b : Nat) (S : Dv) (fp : Nat → Prop) (k : Int) (s : ByteArray) (w : World) (h : DevAt w b S fp) (he : ¬ reachE S k = 0) :
    Calls Tryz.prog 87 #[.pointer (some ⟨b, 0, none⟩), .int .i64 k, .string s] w fun e w' => e = .returned (.int .i64 (reachE S k)) ∧ w = w' := by
  have hR := reach_any b S fp k w h
  clear h
  generalize reachE S k = x at *
  have he1 : (x == 0) = false := by simpa using he
  have he2 : (x != 0) = true := by simpa using he
  go_enter Tryz.func87, Tryz.ntmps87
  go_wp2_with fail
  refine hR.mono ?_
  rintro e w1 ⟨rfl, rfl⟩
  go_wp2
  go_ret
  exact ⟨rfl, rfl⟩
theorem write_len (b : Nat) (S : Dv) (fp : Nat → Prop) (k : Int) (s : ByteArray) (w : World) (h : DevAt w b S fp) (he : reachE S k = 0) (hs : ¬ s.size = 64) :
    Calls Tryz.prog 87 #[.pointer (some ⟨b, 0, none⟩), .int .i64 k, .string s] w fun e w' => e = .returned (.int .i64 1) ∧ w = w' := by
  have hR := reach_any b S fp k w h
  rw [he] at hR
  clear h he
  have hs2 : ((s.size : Int) == 64) = false := by simp; omega
  have hs3 : ((s.size : Int) != 64) = true := by simp; omega
  go_enter Tryz.func87, Tryz.ntmps87
  go_wp2_with fail
  refine hR.mono ?_
  rintro e w1 ⟨rfl, rfl⟩
  go_wp2
  go_ret
  exact ⟨rfl, rfl⟩
theorem write_fuse (b : Nat) (S : Dv) (fp : Nat → Prop) (k : Int) (s : ByteArray) (w : World) (h : DevAt w b S fp) (he : reachE S k = 0) (hs : s.size = 64) (hp : S.pass = false) :
    Calls Tryz.prog 87 #[.pointer (some ⟨b, 0, none⟩), .int .i64 k, .string s] w fun e w' => e = .returned (.int .i64 6) ∧ Did fp b S w w' := by
  have hR := reach_any b S fp k w h
  rw [he] at hR
  obtain ⟨mb, cb, m, hd, h⟩ := h
  have hP := pass_any b mb cb m hd S fp w h
  rw [hp, spent_not hp] at hP
  clear h he
  have hs2 : ((s.size : Int) == 64) = true := by rw [hs]; rfl
  have hs3 : ((s.size : Int) != 64) = false := by rw [hs]; rfl
  clear hs
  go_enter Tryz.func87, Tryz.ntmps87
  go_wp2_with fail
  refine hR.mono ?_
  rintro e w1 ⟨rfl, rfl⟩
  go_wp2_with fail
  refine hP.mono ?_
  rintro e w1 ⟨rfl, h1, t1, z1⟩
  have Z1 := Lib.hid z1
  clear z1
  go_wp2
  go_ret
  exact ⟨rfl, Did.of h1 t1⟩
theorem write_nil (k : Int) (s : ByteArray) (w : World) :
    Calls Tryz.prog 87 #[.pointer none, .int .i64 k, .string s] w fun e w' => e = .returned (.int .i64 6) ∧ w = w' := by
  go_enter Tryz.func87, Tryz.ntmps87
  go_wp2_with fail
  refine (reach_nil _ _).mono ?_
  rintro e w1 ⟨rfl, rfl⟩
  go_wp2
  go_ret
  exact ⟨rfl, rfl⟩
end Go.Proofs.YtiffkbmcikiioaaGreat

/- settle. -/
namespace Go.Proofs.YtiffkbmcikiioaaGreat
set_option maxRecDepth 100000
open Go.RowKit Go.Maps

/-- The medium with one sector turned. -/
theorem DevIn.medSet {w : World} {b mb cb m : Nat} {hd : Nat → Nat × Nat} {S : Dv} {fp : Nat → Prop} (h : DevIn w b mb cb m hd S fp) (k : Nat) (hk : k < S.med.length) (x : Sec) (hx : x.length = 64) :
    DevIn (w.setCells mb (k * 64) (secCells x)) b mb cb m hd { S with med := S.med.set k x } fp := by
  obtain ⟨h1, h2⟩ := heap_setCells mb (secCells x) (k * 64) w
  have e : (S.med.set k x).length = S.med.length := List.length_set
  refine ⟨⟨by rw [e]; exact h.ok.n1, by rw [e]; exact h.ok.n2, fun i hi => h.ok.out i (by rw [← e]; exact hi), h.ok.left, h.ok.cnts⟩, ?_, ?_, h.map.same (h2 _ h.cmb), h.mle, fun i hi => (h.vers i hi).same (h2 _ (h.apart i hi)), h.inj, h.apart, h.fb, h.fm, h.fc, h.fv, fun j hj => by rw [h1]; exact h.lt j hj⟩
  · rw [h2 _ h.bm, h.blk]
    unfold dvCells
    rw [e]
  · have := h.med.setCells k hk x hx
    show Rows _ mb (S.med.set k x).length _
    rw [e]
    exact this

/-- What a crash leaves of a sector by a number. -/
def Dv.settle (S : Dv) (k : Nat) (n : Int) : Dv := { S with med := S.med.set k ((S.med.getD k [] :: S.since k).getD (n % ((S.since k).length + 1 : Int)).toNat []) }
theorem settle_zero {S : Dv} {k : Nat} {n : Int} (hk : k < S.med.length) (h : n % ((S.since k).length + 1 : Int) = 0) : S.settle k n = S := by
  unfold Dv.settle
  rw [h]
  cases S with | mk med since lost fused left cnt =>
  simp only at hk ⊢
  congr 1
  rw [show (0 : Int).toNat = 0 from rfl, List.getD_cons_zero, List.getD_eq_getElem?_getD, List.getElem?_eq_getElem hk]
  simp

end Go.Proofs.YtiffkbmcikiioaaGreat

/- Flush. -/
namespace Go.Proofs.YtiffkbmcikiioaaGreat
set_option maxRecDepth 100000
open Go.RowKit Go.Maps

/-- What is on the map D: the heads of the versions of S. -/
structure HeadsD (D : DataW Unit) (S : Dv) (hd : Nat → Nat × Nat) : Prop where
  at_ : ∀ k, (Lit.int .i64 k).wf = true → D.atKey (.int .i64 k) .nil = (hdOf S hd k).dat
  has : ∀ k, (Lit.int .i64 k).wf = true → Maps.has D (.int .i64 k) = (hdOf S hd k).isSome

theorem head_some {S : Dv} {hd : Nat → Nat × Nat} {x : Int} (h : (hdOf S hd x).isSome = true) : ∃ k : Nat, x = k ∧ S.since k ≠ [] ∧ hdOf S hd x = some ((hd k).1, (S.since k).length, (hd k).2) := by
  unfold hdOf at h ⊢
  split at h
  · cases h
  · rename_i hn
    rw [if_neg hn]
    exact ⟨x.toNat, by omega, fun e => hn (.inr e), rfl⟩
theorem head_of {S : Dv} {hd : Nat → Nat × Nat} {k : Nat} (h : S.since k ≠ []) : hdOf S hd (k : Int) = some ((hd k).1, (S.since k).length, (hd k).2) := by
  unfold hdOf
  rw [if_neg (by simpa using h)]
  rfl
theorem head_none {S : Dv} {hd : Nat → Nat × Nat} {k : Nat} (h : S.since k = []) : hdOf S hd (k : Int) = none := by
  unfold hdOf
  rw [if_pos (.inr (by simpa using h))]
/-- The entry that has come. -/
theorem next_key {D : DataW Unit} {S : Dv} {hd : Nat → Nat × Nat} (H : HeadsD D S hd) {x : Int} {c : Hd} {kl : Lit} {y : DataW Unit × List MemPlace} (hkey : keyOf Tryz.prog 3 (.int .i64 x) = some kl) (hv : hdr c.val = some y) (hat : ∀ zd, D.atKey kl zd = y.1) :
    ∃ k : Nat, x = k ∧ S.since k ≠ [] ∧ c = some ((hd k).1, (S.since k).length, (hd k).2) ∧ kl = .int .i64 (k : Int) := by
  obtain ⟨x', hx, rfl, hwx⟩ := Maps.keyOf_int_inv Tryz.underlying3 hkey
  cases hx
  have h1 := Maps.has_true_of_atKey hat
  rw [H.has x hwx] at h1
  obtain ⟨k, rfl, hs, hh⟩ := head_some h1
  refine ⟨k, rfl, hs, ?_, rfl⟩
  rw [hdr_val] at hv
  cases hv
  have h2 := hat .nil
  rw [H.at_ _ hwx] at h2
  rw [← dat_inj h2, hh]

theorem sameKey_int (a b : Int) : (Lit.int .i64 a).sameKey (.int .i64 b) = decide (a = b) := by simp [Lit.sameKey]

/-- The medium on the way of a flush: what is left is as it was. -/
def flushL (S : Dv) (lf : Nat → Bool) : List Sec := (List.range S.med.length).map fun i => if lf i then S.med.getD i [] else S.now i
theorem flushL_len (S : Dv) (lf : Nat → Bool) : (flushL S lf).length = S.med.length := by simp [flushL]
theorem now_none {S : Dv} {i : Nat} (h : S.since i = []) : S.now i = S.med.getD i [] := by simp [Dv.now, h]
theorem flushL_start (S : Dv) (lf : Nat → Bool) (h : ∀ i, i < S.med.length → lf i = false → S.since i = []) : flushL S lf = S.med := by
  apply List.ext_getElem (flushL_len S lf)
  intro i h1 h2
  simp only [flushL, List.getElem_map, List.getElem_range]
  split
  · rw [List.getD_eq_getElem?_getD, List.getElem?_eq_getElem h2]; rfl
  · rename_i hl
    rw [now_none (h i h2 (by simpa using hl)), List.getD_eq_getElem?_getD, List.getElem?_eq_getElem h2]; rfl
theorem flushL_step (S : Dv) (lf lf' : Nat → Bool) (k : Nat) (hk : lf' k = false) (h : ∀ i, i ≠ k → lf' i = lf i) : (flushL S lf).set k (S.now k) = flushL S lf' := by
  apply List.ext_getElem (by simp [flushL])
  intro i h1 h2
  rw [List.getElem_set]
  split
  · rename_i e
    subst e
    simp [flushL, hk]
  · rename_i e
    simp only [flushL, List.getElem_map, List.getElem_range]
    rw [h i (fun e' => e e'.symm)]
/-- Behind a flush. -/
def Dv.flush (S : Dv) : Dv := { S with med := (List.range S.med.length).map S.now, since := fun _ => [], cnt := 0 }
theorem flushL_end (S : Dv) (lf : Nat → Bool) (h : ∀ i, lf i = false) : ({ S with med := flushL S lf } : Dv).bare = S.flush := by
  unfold Dv.bare Dv.flush flushL
  simp [h]
theorem flush_lost (b : Nat) (S : Dv) (fp : Nat → Prop) (w : World) (h : DevAt w b S fp) (hl : S.lost = true) :
    Calls Tryz.prog 25 #[.pointer (some ⟨b, 0, none⟩)] w fun e w' => e = .returned (.int .i64 6) ∧ w = w' := by
  have hL := lost_any b S fp w h
  rw [hl] at hL
  go_enter Tryz.func25, Tryz.ntmps25
  go_wp2_with fail
  refine hL.mono ?_
  rintro e w1 ⟨rfl, rfl⟩
  go_wp2
  go_ret
  exact ⟨rfl, rfl⟩
theorem flush_nil (w : World) :
    Calls Tryz.prog 25 #[.pointer none] w fun e w' => e = .returned (.int .i64 6) ∧ w = w' := by
  go_enter Tryz.func25, Tryz.ntmps25
  go_wp2_with fail
  refine (lost_nil _).mono ?_
  rintro e w1 ⟨rfl, rfl⟩
  go_wp2
  go_ret
  exact ⟨rfl, rfl⟩
theorem flush_fuse (b : Nat) (S : Dv) (fp : Nat → Prop) (w : World) (h : DevAt w b S fp) (hl : S.lost = false) (hp : S.pass = false) :
    Calls Tryz.prog 25 #[.pointer (some ⟨b, 0, none⟩)] w fun e w' => e = .returned (.int .i64 6) ∧ Did fp b S w w' := by
  have hL := lost_any b S fp w h
  rw [hl] at hL
  obtain ⟨mb, cb, m, hd, h⟩ := h
  have hP := pass_any b mb cb m hd S fp w h
  rw [hp, spent_not hp] at hP
  go_enter Tryz.func25, Tryz.ntmps25
  go_wp2_with fail
  refine hL.mono ?_
  rintro e w1 ⟨rfl, rfl⟩
  go_wp2_with fail
  refine hP.mono ?_
  rintro e w1 ⟨rfl, h1, t1, z1⟩
  have Z1 := Lib.hid z1
  clear z1
  go_wp2
  go_ret
  exact ⟨rfl, Did.of h1 t1⟩
end Go.Proofs.YtiffkbmcikiioaaGreat

/- Flush: the walk. -/
namespace Go.Proofs.YtiffkbmcikiioaaGreat
set_option maxRecDepth 100000
open Go.RowKit Go.Maps

def FlushRel (w : World) (b mb cb m r : Nat) (hd : Nat → Nat × Nat) (S : Dv) (fp : Nat → Prop) (D : DataW Unit) (wr : World) : Prop :=
  ∃ left cnt, wr.ranges Tryz.prog 3 hdr cb r m D left cnt ∧ DevIn wr b mb cb m hd { S with med := flushL S fun i => left (.int .i64 (i : Int)) } fp ∧ Turn fp w wr

theorem grown_setCells (w : World) (b o : Nat) (vs : List Value) : w.grownBy (w.drew.setCells b o vs) (some b) := by
  obtain ⟨h1, h2⟩ := heap_setCells b vs o w.drew
  obtain ⟨e1, e2, e3⟩ := env_setCells b vs o w.drew
  exact ⟨e1, e2, e3, by rw [h1]; exact Nat.le_refl _, fun k _ hn => h2 k (fun e => hn (by rw [e]))⟩
theorem iter_ne {w : World} {cb r m g c : Nat} {D : DataW Unit} {left : Lit → Bool} {cnt : Nat} {l : List Sec} (h : w.ranges Tryz.prog 3 hdr cb r m D left cnt) (hg : Rows w g c l) : r ≠ g := by
  intro e
  obtain ⟨_, _, _, _, _, _, _, _, _, hr, _⟩ := h
  obtain ⟨cur, h1, _⟩ := hg.shape
  rw [e, h1] at hr
  cases hr
theorem invK : ∀ key kl, keyOf Tryz.prog 3 key = some kl → ∃ x, key = Value.int .i64 x := fun key kl hkey => by
  obtain ⟨x, rfl, _⟩ := Maps.keyOf_int_inv Tryz.underlying3 hkey; exact ⟨x, rfl⟩
theorem invV : ∀ v y, hdr v = some y → ∃ c : Hd, v = c.val := fun v y hv => by
  obtain ⟨c, rfl, _⟩ := hdr_inv hv; exact ⟨c, rfl⟩

set_option maxHeartbeats 1000000 in
theorem flush_ok (b : Nat) (S0 : Dv) (fp : Nat → Prop) (w : World) (h : DevAt w b S0 fp) (hl : S0.lost = false) (hp : S0.pass = true) (hc : S0.cnt ≤ 4294967296) :
    Calls Tryz.prog 25 #[.pointer (some ⟨b, 0, none⟩)] w fun e w' => e = .returned (.int .i64 0) ∧ Did fp b S0.spent.flush w w' := by
  have hL := lost_any b S0 fp w h
  rw [hl] at hL
  obtain ⟨mb, cb, m, hd, h⟩ := h
  have hP := pass_any b mb cb m hd S0 fp w h
  rw [hp] at hP
  have hc' : S0.spent.cnt ≤ 4294967296 := hc
  clear h hc
  generalize S0.spent = S at *
  go_enter Tryz.func25, Tryz.ntmps25
  go_wp2_with fail
  refine hL.mono ?_
  rintro e w1 ⟨rfl, rfl⟩
  go_wp2_with fail
  refine hP.mono ?_
  rintro e w1 ⟨rfl, h1, t1, z1⟩
  clear z1 hP hL
  have c1 := h1.c1
  have HM := h1.map
  obtain ⟨D, hown, hat0, hhas0⟩ := HM
  have HD : HeadsD D S hd := ⟨hat0, hhas0⟩
  clear hat0 hhas0
  have H1 := Lib.hid h1
  clear h1
  go_wp2_with (first | (at_range; refine wpList_range_own _ rfl _ 99 rfl 3 98 law Tryz.underlying99 _ cb m D rfl hown ?_; intro w0 hrg0 hg0 hs0))
  go_frame
  have hlt : Hid (∀ k, fp k → k < w1.heap.size) := H1.out.lt
  have hn2 := H1.out.ok.n2
  have hrel0 : FlushRel w b mb cb m w1.heap.size hd S fp D w0 := by
    refine ⟨_, _, hrg0, ?_, t1.trans (grown_turn (fp := fp) hg0 fun _ e => by cases e) fun _ h => .inl h⟩
    rw [flushL_start S _ fun i hi hf => ?_]
    · exact H1.out.same hg0.size fun k hk => hg0.block k (hlt.out k hk) (by simp)
    · rw [HD.has _ (wfN i (by omega))] at hf
      by_cases e : S.since i = []
      · exact e
      · rw [head_of e] at hf; cases hf
  have t1s := t1.size
  clear hrg0 hg0 hs0 hown t1 c1 H1
  have hrs : Hid (w.heap.size ≤ w1.heap.size) := t1s
  generalize w1.heap.size = r at *
  go_loopw [3] (fun _ wr => FlushRel w b mb cb m r hd S fp D wr) (fun _ wr => wr.rangeLeft cb r)
  case atStart => exact hrel0
  case round =>
    obtain ⟨left, cnt, hrg, hdev, ht⟩ := hrel
    go_wp2_with (first
      | (at_next; refine wpList_next_ranges _ rfl _ rfl 3 law hdr (Value.int .i64) Hd.val invK invV cb r m D left cnt rfl hrg ?_ ?_))
    · intro _ hl0
      have e := flushL_end S (fun i => left (.int .i64 (i : Int))) fun i => hl0 _
      have c1 := hdev.c1
      go_wp2_with (obtain ⟨w', hr, h3, h4⟩ := wipe_any hdev _; refine wpList_clear _ rfl _ _ rfl _ rfl _ hr ?_)
      go_ret
      rw [e] at h3
      exact ⟨rfl, Did.of h3 (ht.trans h4 fun _ h => .inl h)⟩
    · intro x c kl yd yp w2 cnt2 hkey hlk hv hat hrg2 hlt2 hg2 hs2 hen
      obtain ⟨k, rfl, hsk, rfl, rfl⟩ := next_key HD hkey hv hat
      have hd2 := hdev.same hg2.size fun q hq => hg2.block q (hdev.lt q hq) (fun e => by cases e; exact Nat.lt_irrefl _ (hlt.out _ hq))
      have t2 : Turn fp w w2 := ht.trans (fp' := fun q => q = r) ⟨hg2.os, hg2.tape, hg2.output, hg2.size, fun q hq hn => hg2.block q hq (fun e => by cases e; exact hn rfl)⟩ fun q hq => by subst hq; exact .inr hrs.out
      have HLT := Lib.hid hlt2
      have HL0 := Lib.hid hrg.left_eq
      have hk : k < S.med.length := by
        rcases Nat.lt_or_ge k S.med.length with h | h
        · exact h
        · exact absurd (hdev.ok.out k (by show (flushL S _).length ≤ k; rw [flushL_len]; exact h)) hsk
      have hvr := hd2.vers k hsk
      have hcc := hvr.le
      have hcm := hvr.cap
      have hlc := hdev.ok.cnts k
      simp only at hvr hcc hlc
      obtain ⟨j, hj⟩ : ∃ j, (S.since k).length = j + 1 := ⟨(S.since k).length - 1, by have := List.length_pos_iff.2 hsk; omega⟩
      have hjl : j < (S.since k).length := by omega
      have hnow : (S.since k)[j] = S.now k := by
        unfold Dv.now
        rw [List.getLastD_eq_getLast?, List.getLast?_eq_getElem?, List.getElem?_eq_getElem (by omega)]
        simp [hj]
      have hx := hvr.at_ j hjl
      have rv := hvr.range j hjl
      rw [hnow] at hx rv
      have tm := hd2.med.there k (by rw [flushL_len]; exact hk)
      have hD := hd2.drew.medSet k (by rw [flushL_len]; exact hk) _ hx
      have c0 := hd2.c0
      have cD := hD.c0
      have rD := World.rangeAt_setCells_apart (w := w2.drew) rv mb (k * 64) (secCells (S.now k)) (.inl (hd2.apart k hsk))
      have tD := World.there_setCells (w := w2.drew) tm mb (k * 64) (secCells (S.now k))
      have T := Lib.hid ((t2.trans (Turn.of_below (fp := fp) (Below.refl _ w2).drew) fun _ h => .inl h).setCells hd2.fm (k * 64) (secCells (S.now k)))
      have HR := Lib.hid (hrg2.kept (grown_setCells w2 mb (k * 64) (secCells (S.now k))) (by intro e; cases e; exact hd2.cmb rfl) (by intro e; cases e; exact iter_ne hrg2 hd2.med rfl))
      have e3 : (flushL S fun i => left (.int .i64 (i : Int))).set k (S.now k) = flushL S fun i => left (.int .i64 (i : Int)) && !(Lit.int .i64 (i : Int)).sameKey (.int .i64 (k : Int)) :=
        flushL_step S _ _ k (by simp [sameKey_int]) fun i hi => by
          have : ¬ ((i : Int) = (k : Int)) := by omega
          simp [sameKey_int, this]
      simp only at hD
      rw [e3] at hD
      have HDv := Lib.hid hD
      have h1c := secCells_one (S.now k)
      have hl64 : (secCells (S.now k)).length = 64 := by rw [secCells_len, hx]
      have hu := Tryz.underlying103
      have hi : (Tryz.prog.info? 103).map (·.size) = some (secCells (S.now k)).length := by
        obtain ⟨i, z, hi, _, hs, _⟩ := info_sec
        rw [hi, hl64, ← hs]; rfl
      simp only [List.length_set, flushL_len] at cD c0
      simp only [Hd.val, hj] at hen ⊢
      rw [hj] at hcc hlc
      clear e3 hD hx hnow hvr hdev ht hg2 hs2 hrg hrg2 hv hat hkey hlk t2 hd2 hj hjl hlt2
      generalize secCells (S.now k) = cs at *
      generalize S.med.length = N at *
      generalize (hd k).1 = g at *
      generalize (hd k).2 = c at *
      unfold maxLen at hcm
      go_wp2_with fail
      have q1 : IntKind.i64.wrap ((j : Int) + 1 - 1) = (j : Int) := by rw [show (j : Int) + 1 - 1 = j by omega]; exact IntWalk.i64_in _ (by omega)
      have q2 : IntKind.i64.wrap (j : Int) = (j : Int) := IntWalk.i64_in _ (by omega)
      have q3 : (j : Int) < ((j + 1 : Nat) : Int) := by omega
      have q4 : (k : Int) < (N : Int) := by omega
      have q5 : (j : Int) < (j : Int) + 1 := by omega
      go_region_held3 (fun w' => w'.cell? ⟨b, 0, none⟩ = some (.slice (some ⟨mb, 0, none⟩) N N) ∧ w'.rangeAt g (j * 64) cs ∧ w'.there mb (k * 64) 64) (first | exact ⟨c0, rv, tm⟩ | exact ⟨cD, rD, tD⟩) (first | fail)
      all_goals
        go_wp2
        go_roundw
        case rel => exact ⟨_, cnt2, HR.out, HDv.out, T.out⟩
        case measure => rw [HR.out.left_eq, HL0.out]; exact HLT.out
end Go.Proofs.YtiffkbmcikiioaaGreat
