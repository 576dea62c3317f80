/-
  Write: the walk.
-/
import Derived.Test.YtmkheikllbjcbaaDw
import Derived.Great.BuildSlice
namespace Go.Proofs.Ytmkheikllbjcbaa
open Go.RowKit Go.Maps

theorem run_one (W : World) (x : Sec) (hx : x.length = 64) :
    (Instr.buildSlice 58 1 #[(0, .agg (secCells x).toArray)]).run Try.prog W = .ok (.slice (some ⟨W.heap.size, 0, none⟩) 1 1) (W.alloc (.cells (secCells x).toArray 64)) := by
  obtain ⟨i, z, hi, hz, hs, hb, hzs⟩ := info_sec
  refine run_buildSlice W 58 64 1 _ _ i z Try.underlying58 hi hz (by rw [hs]; omega) (by rw [hs]; omega) ?_
  rw [hs]
  have := Great.fill_whole (s := 64) (by decide) [.agg (secCells x).toArray] ((Array.range (1 * 64)).map (z.cells[· % z.cells.size]!)) (fun v hv => by
    rw [List.mem_singleton.1 hv]; simp [Value.cells, secCells_len, hx]) (by simp)
  simpa [Value.cells] using this
theorem fold_set (cs : List Value) : ∀ (k : Nat) (init : Array Value), k + cs.length = init.size → (List.foldl (fun (c : Array Value) (x : Value × Nat) => c.setIfInBounds x.snd x.fst) init (cs.zipIdx k)).toList = init.toList.take k ++ cs := by
  induction cs with
  | nil => intro k init h; simp at h ⊢; rw [h, List.take_of_length_le (by simp)]
  | cons v r ih =>
    intro k init h
    simp only [List.zipIdx_cons, List.foldl_cons]
    simp only [List.length_cons] at h
    rw [ih (k + 1) _ (by simp; omega)]
    rw [Array.toList_setIfInBounds]
    apply List.ext_getElem?
    intro j
    have hk : k < init.toList.length := by simp; omega
    rcases Nat.lt_trichotomy j k with hj | rfl | hj
    · rw [List.getElem?_append_left (by simp; omega), List.getElem?_take_of_lt (by omega), List.getElem?_set_ne (by omega), List.getElem?_append_left (by simp; omega), List.getElem?_take_of_lt hj]
    · rw [List.getElem?_append_left (by simp; omega), List.getElem?_take_of_lt (by omega), List.getElem?_set_self hk, List.getElem?_append_right (by simp; omega)]
      simp
      rw [Nat.min_eq_left (by simpa using Nat.le_of_lt hk)]
      simp
    · rw [List.getElem?_append_right (by simp; omega), List.getElem?_append_right (by simp; omega)]
      simp only [List.length_take, List.length_set]
      rw [Nat.min_eq_left (by omega), Nat.min_eq_left (by omega), show j - k = (j - (k + 1)) + 1 by omega, List.getElem?_cons_succ]
theorem fold_whole (cs : List Value) (init : Array Value) (h : cs.length = init.size) : List.foldl (fun (c : Array Value) (x : Value × Nat) => c.setIfInBounds x.snd x.fst) init cs.zipIdx = cs.toArray := by
  apply Array.ext'
  rw [fold_set cs 0 init (by omega)]
  simp
theorem there_new (W : World) (cs : Array Value) (t : TypeId) (n : Nat) (h : cs.size = n) : (W.alloc (.cells cs t)).there W.heap.size 0 n := fun j hj => by
  have hh := heap_alloc_new W (.cells cs t)
  refine ⟨?_, by unfold World.frozen?; simp only [hh]; simp⟩
  unfold World.cell?
  simp only [hh]
  simp
  omega
theorem sec_len (s : ByteArray) (h : s.size = 64) : s.data.toList.length = 64 := by rw [← h, Array.length_toList]; rfl
theorem size_u8 (w : World) : (Go.sizeOf 5).run Try.prog w = .ok 1 w := by kernel_rfl
theorem wpList_copy_ver {ops : Array Oper} {rest : List Oper} {o : Oper} {a : Act} {Q : Exit → Act → World → Prop} (w1 : World) (cs : Array Value) (hcs : cs.size = 64) (s : ByteArray) (hs : s.size = 64) (hgd : o.guard = none) (d x : Operand)
    (ho : o.op = .call { callee := .builtin .copy, args := #[d, x], argTypes := #[40, 9] }) (hd : a.eval d = .slice (some ⟨w1.heap.size, 0, none⟩) 64 64) (hx : a.eval x = .string s)
    (h : ∀ w2, Below w1.heap.size w1 w2 → w2.rangeAt w1.heap.size 0 (secCells s.data.toList) → w1.heap.size < w2.heap.size → wpList Try.prog ops Q rest (a.put o.dst (goInt 64)) w2) :
    wpList Try.prog ops Q (o :: rest) a (w1.alloc (.cells cs 64)) := by
  have ht := there_new w1 cs 64 64 hcs
  have hr := Go.run_copy_string (P := Try.prog) (w1.alloc (.cells cs 64)) 40 9 o.type 5 w1.heap.size 0 64 64 s Try.underlying40 size_u8 (by omega) (fun j hj => (ht j (by omega)).1) (fun j hj => (ht j (by omega)).2)
  rw [hs] at hr
  refine Lib.wpList_copy_run _ hgd d x _ _ ho _ _ hd hx hr (h _ ?_ ?_ ?_)
  · exact Lib.below_setCells _ (Nat.le_refl _) _ _ ((Below.refl _ w1).alloc (Nat.le_refl _) _)
  · exact World.rangeAt_setCells_same _ _ _ _ (by
      have : (s.data.toList.map fun x => Value.int .u8 (x.toNat : Int)).length = 64 := by rw [List.length_map]; exact sec_len s hs
      rw [this]; exact ht)
  · rw [(heap_setCells _ _ _ _).1]; simp

theorem step_append_run {P : Program} {ops : Array Oper} {o : Oper} {a : Act} {w : World} {K : Act → World → Prop} {Q : Exit → Act → World → Prop} {E : Prop} (hg : o.guard = none) (s x : Operand) (t : TypeId)
    (hop : o.op = Op.call { callee := Callee.builtin Builtin.append, args := #[s, x], argTypes := #[t, t] }) (v xv : Value) (hs : a.eval s = v) (hx : a.eval x = xv) (r : Value) (w' : World)
    (hr : (Builtin.append_ #[t, t] o.type #[v, xv]).run P w = .ok r w') (hK : K (a.put o.dst r) w') : if Region.wanted o (yielded ops a.tmps) = true then Oper.wp P o a w K Q else E := by
  have hw : Region.wanted o (yielded ops a.tmps) = true := by simp [Region.wanted, hg]
  rw [if_pos hw]
  exact Lib.wp_append_run w s x t t hop v xv hs hx r w' hr hK
theorem Turn.range {fp : Nat → Prop} {w w' : World} (h : Turn fp w w') {g o : Nat} {cs : List Value} (hr : w.rangeAt g o cs) (hg : ¬ fp g) : w'.rangeAt g o cs := fun j v hv => by
  have h1 := hr j v hv
  rw [World.cell?_of_block (w := w) (h.block g (World.block_lt_of_cell? w _ h1) hg)]
  exact h1
theorem Did.turn {fp : Nat → Prop} {b : Nat} {S' : Dv} {w w' : World} (h : Did fp b S' w w') : Turn fp w w' := by
  obtain ⟨_, _, _, h⟩ := h
  exact h
theorem Did.pre {fp : Nat → Prop} {b : Nat} {S' : Dv} {a w w' : World} (t : Turn fp a w) (h : Did fp b S' w w') : Did fp b S' a w' := by
  obtain ⟨fp', h1, h2, h3⟩ := h
  exact ⟨fp', h1, fun k hk => (h2 k hk).imp id fun e => Nat.le_trans t.size e, t.trans h3 fun _ h => .inl h⟩
theorem range_new (W : World) (cs : List Value) (t : TypeId) : (W.alloc (.cells cs.toArray t)).rangeAt W.heap.size 0 cs := fun j v hv => by
  unfold World.cell?
  simp only [heap_alloc_new W (.cells cs.toArray t)]
  simpa using hv

set_option maxRecDepth 100000 in
set_option maxHeartbeats 1000000 in
theorem write_ok (b : Nat) (S : Dv) (fp : Nat → Prop) (k : Nat) (s : ByteArray) (w : World) (h : DevAt w b S fp) (hl : S.lost = false) (hk : k < S.med.length) (hs : s.size = 64) (hp : S.pass = true) (hc : S.cnt < 4294967296) :
    Calls Try.prog 13 #[.pointer (some ⟨b, 0, none⟩), .int .i64 (k : Int), .string s] w fun e w' => e = .returned (.int .i64 0) ∧ Did fp b (S.spent.put k s.data.toList) w w' := by
  have hR := reach_any b S fp k w h
  rw [show reachE S (k : Int) = 0 by unfold reachE; rw [hl]; simp; omega] at hR
  obtain ⟨mb, cb, m, hd, h⟩ := h
  have hP := pass_any b mb cb m hd S fp w h
  rw [hp] at hP
  have hs2 : ((s.size : Int) == 64) = true := by rw [hs]; rfl
  have hs3 : ((s.size : Int) != 64) = false := by rw [hs]; rfl
  have HS := Lib.hid hs
  have hfp := Lib.hid h.lt
  clear hs
  go_enter Try.func13, Try.ntmps13
  go_wp2_with fail
  refine hR.mono ?_
  rintro e w1 ⟨rfl, rfl⟩
  go_wp2_with fail
  refine hP.mono ?_
  rintro e w1 ⟨rfl, h1, t1, z1⟩
  have Z1 := Lib.hid z1
  clear hP hR z1
  go_wp2_with (first | (refine wpList_copy_ver w1 _ rfl s HS.out rfl _ _ rfl rfl rfl ?_; intro w2 b2 r2 z2))
  have h2 := h1.below b2
  have t2 : Turn fp w w2 := t1.trans (Turn.of_below (fp := fp) b2) fun _ h => .inl h
  have hvb : ¬ fp w1.heap.size := fun e => by have := hfp.out _ e; rw [← Z1.out] at this; omega
  generalize w1.heap.size = vb at *
  clear h1 b2 t1 Z1 h
  have hn2 := h2.ok.n2
  have hk2 : k < S.spent.med.length := hk
  have hx : s.data.toList.length = 64 := sec_len s HS.out
  have HX := Lib.hid hx
  have c1 := h2.c1
  have hA := (h2.below ((Below.refl _ w2).alloc (Nat.le_refl _) (.cells (secCells s.data.toList).toArray 64))).drew
  have tA : Turn fp w2 (w2.alloc (.cells (secCells s.data.toList).toArray 64)).drew := Turn.of_below ((Below.refl _ w2).alloc (Nat.le_refl _) _).drew
  have qA : (w2.alloc (.cells (secCells s.data.toList).toArray 64)).drew.rangeAt w2.heap.size 0 (secCells s.data.toList) := range_new w2 _ _
  have cA := hA.c1
  have rA := tA.range r2 hvb
  have hl1 := h2.drew.map.look (k : Int) (wfN k (by omega))
  have hl2 := hA.map.look (k : Int) (wfN k (by omega))
  have hu := Try.underlying64
  have hi : (Try.prog.info? 64).map (·.size) = some (secCells s.data.toList).length := by
    obtain ⟨i, z, hi, _, hs, _⟩ := info_sec
    rw [hi, secCells_len, HX.out, ← hs]; rfl
  have hlen : (secCells s.data.toList).length = 64 := by rw [secCells_len, HX.out]
  have HC := Lib.hid (fun ty => write_core hA k hk2 w2.heap.size s.data.toList HX.out qA hc ty)
  clear hx
  have HT := Lib.hid tA
  have HT2 := Lib.hid t2
  clear hA qA tA t2 h2
  generalize secCells s.data.toList = cs at *
  have hfold : ∀ init : Array Value, init.size = 64 → List.foldl (fun (c : Array Value) (x : Value × Nat) => c.setIfInBounds x.snd x.fst) init cs.zipIdx = cs.toArray := fun init hi => fold_whole cs init (by rw [hi]; exact hlen)
  generalize (hdOf S.spent hd (k : Int)).val = v0 at *
  go_region_held3 (fun w' => w'.cell? ⟨b, 1, none⟩ = some (.map (some cb)) ∧ w'.rangeAt vb 0 cs) (first | exact ⟨c1, r2⟩ | exact ⟨cA, rA⟩ | exact ⟨c3, r3⟩ | exact ⟨c4, r4⟩)
    (first | (obtain ⟨g, c, w3, w4, e1, e2, t3, c3, c4, hdid⟩ := HC.out 58; have r3 := t3.range rA hvb; have r4 := (Did.turn hdid).range rA hvb; have HD := Lib.hid hdid; clear hdid; refine step_append_run rfl _ _ _ rfl _ _ rfl rfl _ _ e1 ?_))
  all_goals
    go_wp2
    go_ret
    exact ⟨rfl, Did.pre (HT2.out.trans HT.out fun _ h => .inl h) HD.out⟩
theorem spent_not {S : Dv} (h : S.pass = false) : S.spent = S := by
  unfold Dv.pass at h
  unfold Dv.spent
  cases S with | mk med since lost fused left cnt =>
  simp at h
  simp [h]
theorem write_no (b : Nat) (S : Dv) (fp : Nat → Prop) (k : Int) (s : ByteArray) (w : World) (h : DevAt w b S fp) (he : ¬ reachE S k = 0) :
    Calls Try.prog 13 #[.pointer (some ⟨b, 0, none⟩), .int .i64 k, .string s] w fun e w' => e = .returned (.int .i64 (reachE S k)) ∧ w = w' := by
  have hR := reach_any b S fp k w h
  clear h
  generalize reachE S k = x at *
  have he1 : (x == 0) = false := by simpa using he
  have he2 : (x != 0) = true := by simpa using he
  go_enter Try.func13, Try.ntmps13
  go_wp2_with fail
  refine hR.mono ?_
  rintro e w1 ⟨rfl, rfl⟩
  go_wp2
  go_ret
  exact ⟨rfl, rfl⟩
theorem write_len (b : Nat) (S : Dv) (fp : Nat → Prop) (k : Int) (s : ByteArray) (w : World) (h : DevAt w b S fp) (he : reachE S k = 0) (hs : ¬ s.size = 64) :
    Calls Try.prog 13 #[.pointer (some ⟨b, 0, none⟩), .int .i64 k, .string s] w fun e w' => e = .returned (.int .i64 1) ∧ w = w' := by
  have hR := reach_any b S fp k w h
  rw [he] at hR
  clear h he
  have hs2 : ((s.size : Int) == 64) = false := by simp; omega
  have hs3 : ((s.size : Int) != 64) = true := by simp; omega
  go_enter Try.func13, Try.ntmps13
  go_wp2_with fail
  refine hR.mono ?_
  rintro e w1 ⟨rfl, rfl⟩
  go_wp2
  go_ret
  exact ⟨rfl, rfl⟩
theorem write_fuse (b : Nat) (S : Dv) (fp : Nat → Prop) (k : Int) (s : ByteArray) (w : World) (h : DevAt w b S fp) (he : reachE S k = 0) (hs : s.size = 64) (hp : S.pass = false) :
    Calls Try.prog 13 #[.pointer (some ⟨b, 0, none⟩), .int .i64 k, .string s] w fun e w' => e = .returned (.int .i64 6) ∧ Did fp b S w w' := by
  have hR := reach_any b S fp k w h
  rw [he] at hR
  obtain ⟨mb, cb, m, hd, h⟩ := h
  have hP := pass_any b mb cb m hd S fp w h
  rw [hp, spent_not hp] at hP
  clear h he
  have hs2 : ((s.size : Int) == 64) = true := by rw [hs]; rfl
  have hs3 : ((s.size : Int) != 64) = false := by rw [hs]; rfl
  clear hs
  go_enter Try.func13, Try.ntmps13
  go_wp2_with fail
  refine hR.mono ?_
  rintro e w1 ⟨rfl, rfl⟩
  go_wp2_with fail
  refine hP.mono ?_
  rintro e w1 ⟨rfl, h1, t1, z1⟩
  have Z1 := Lib.hid z1
  clear z1
  go_wp2
  go_ret
  exact ⟨rfl, Did.of h1 t1⟩
theorem write_nil (k : Int) (s : ByteArray) (w : World) :
    Calls Try.prog 13 #[.pointer none, .int .i64 k, .string s] w fun e w' => e = .returned (.int .i64 6) ∧ w = w' := by
  go_enter Try.func13, Try.ntmps13
  go_wp2_with fail
  refine (reach_nil _ _).mono ?_
  rintro e w1 ⟨rfl, rfl⟩
  go_wp2
  go_ret
  exact ⟨rfl, rfl⟩
end Go.Proofs.Ytmkheikllbjcbaa
