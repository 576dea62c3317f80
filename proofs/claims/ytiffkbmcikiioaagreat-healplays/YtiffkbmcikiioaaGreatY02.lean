/-
  What pass, rest, last and Read of a device answer.
  Write.
-/
import Derived.Test.YtiffkbmcikiioaaGreatY01
import Derived.Laws.BytesString
import Derived.IntWalk
import Derived.Lib.LazyBuf
import Derived.Lib.SlBuf
import Derived.Lib.AppendZeros
import Derived.Maps.AppendAt
import Derived.Deep.RegionHeld3

/- What pass, rest, last and Read of a device answer. -/
namespace Go.Proofs.YtiffkbmcikiioaaGreat
set_option maxRecDepth 100000
open Go.RowKit Go.Maps

/-- Whether a write or a flush is let through, and what is left then. -/
def Dv.pass (S : Dv) : Bool := !S.fused || decide (0 < S.left)
def Dv.spent (S : Dv) : Dv := { S with left := if S.fused then S.left - 1 else S.left }
theorem pass_any (b mb cb m : Nat) (hd : Nat → Nat × Nat) (S : Dv) (fp : Nat → Prop) (w : World) (h : DevIn w b mb cb m hd S fp) :
    Calls Tryz.prog 52 #[.pointer (some ⟨b, 0, none⟩)] w fun e w' => e = .returned (.bool S.pass) ∧ DevIn w' b mb cb m hd S.spent fp ∧ Turn fp w w' ∧ w'.heap.size = w.heap.size := by
  have c3 := h.c3
  have c4 := h.c4
  have f4 := h.fr 4
  have hl := h.ok.left
  have H := Lib.hid h
  clear h
  by_cases hf : S.fused = true
  · by_cases h0 : S.left = 0
    · rw [hf] at c3
      rw [h0] at c4
      go_enter Tryz.func52, Tryz.ntmps52
      go_wp2
      go_ret
      refine ⟨by simp [Dv.pass, hf, h0], ?_, Turn.refl _ _, rfl⟩
      have e : S.spent = S := by unfold Dv.spent; rw [hf, h0]; cases S; simp_all
      rw [e]
      exact H.out
    · rw [hf] at c3
      have h1 : ((S.left : Int) == 0) = false := by simp; omega
      have HS : Hid ((S.left : Int) - 1 = ((S.left - 1 : Nat) : Int)) := by show (S.left : Int) - 1 = _; omega
      go_enter Tryz.func52, Tryz.ntmps52
      go_wp2
      go_ret
      rw [HS.out]
      refine ⟨by simp [Dv.pass, hf]; omega, ?_, (Turn.refl _ _).setCell (.inl H.out.fb) _, by simp [World.setCell]⟩
      have e : S.spent = { S with left := S.left - 1 } := by unfold Dv.spent; rw [hf]; simp
      rw [e]
      exact H.out.set4 _ (by omega)
  · have hf' : S.fused = false := by simpa using hf
    rw [hf'] at c3
    go_enter Tryz.func52, Tryz.ntmps52
    go_wp2
    go_ret
    refine ⟨by simp [Dv.pass, hf'], ?_, Turn.refl _ _, rfl⟩
    have e : S.spent = S := by unfold Dv.spent; rw [hf']; cases S; simp_all
    rw [e]
    exact H.out

theorem tmod_low (n m : Int) (h : 0 < m) : -m < n.tmod m := by
  rw [Int.tmod_eq_emod]
  have h1 := Int.emod_nonneg n (show m ≠ 0 by omega)
  split
  · omega
  · rename_i hcond
    have : n % m ≠ 0 := fun e => hcond (.inr (Int.dvd_of_emod_eq_zero e))
    omega
theorem emod_tmod (n m : Int) (h : 0 < m) : n % m = if n.tmod m < 0 then n.tmod m + m else n.tmod m := by
  have h1 := Int.emod_nonneg n (show m ≠ 0 by omega)
  have h2 := Int.emod_lt_of_pos n h
  rw [Int.tmod_eq_emod]
  split
  · rw [if_neg (by omega)]; omega
  · rename_i hcond
    have : n % m ≠ 0 := fun e => hcond (.inr (Int.dvd_of_emod_eq_zero e))
    rw [if_pos (by omega)]
    omega
theorem rest_any (n m : Int) (w : World) (hm : 0 < m ∧ m ≤ 4611686018427387904) :
    Calls Tryz.prog 34 #[.int .i64 n, .int .i64 m] w fun e w' => e = .returned (.int .i64 (n % m)) ∧ w = w' := by
  obtain ⟨hm0, hm1⟩ := hm
  have e1 : n.tmod m < m := Int.tmod_lt_of_pos _ hm0
  have e2 : -m < n.tmod m := tmod_low n m hm0
  have HE := Lib.hid (emod_tmod n m hm0)
  have hne : ¬ m = 0 := by omega
  have hne' : (m == 0) = false := by simpa using hne
  by_cases hr : n.tmod m < 0
  · go_enter Tryz.func34, Tryz.ntmps34
    go_wp2
    go_ret
    exact ⟨by rw [HE.out, if_pos hr]; rfl, rfl⟩
  · have hr' : decide (n.tmod m < 0) = false := by simpa using hr
    go_enter Tryz.func34, Tryz.ntmps34
    go_wp2
    go_ret
    exact ⟨by rw [HE.out, if_neg (by omega)]; rfl, rfl⟩
/-- Where that stands which a sector reads as: the block, the place in its row, and the row. -/
def lastG (S : Dv) (mb : Nat) (hd : Nat → Nat × Nat) (k : Nat) : Nat := if S.since k = [] then mb else (hd k).1
def lastI (S : Dv) (k : Nat) : Nat := if S.since k = [] then k else (S.since k).length - 1
def lastL (S : Dv) (k : Nat) : List Sec := if S.since k = [] then S.med else S.since k
def lastC (S : Dv) (hd : Nat → Nat × Nat) (k : Nat) : Nat := if S.since k = [] then S.med.length else (hd k).2
/-- What a sector reads as. -/
def Dv.now (S : Dv) (k : Nat) : Sec := (S.since k).getLastD (S.med.getD k [])
theorem last_rows {w : World} {b mb cb m : Nat} {hd : Nat → Nat × Nat} {S : Dv} {fp : Nat → Prop} (h : DevIn w b mb cb m hd S fp) (k : Nat) (hk : k < S.med.length) :
    Rows w (lastG S mb hd k) (lastC S hd k) (lastL S k) ∧ ∃ hi : lastI S k < (lastL S k).length, (lastL S k)[lastI S k] = S.now k := by
  unfold lastG lastC lastL lastI Dv.now
  by_cases e : S.since k = []
  · simp only [e, if_true]
    refine ⟨h.med, hk, ?_⟩
    simp [List.getD_eq_getElem?_getD, List.getElem?_eq_getElem hk]
  · simp only [e, if_false]
    have hp : 0 < (S.since k).length := List.length_pos_iff.2 e
    refine ⟨h.vers k e, by omega, ?_⟩
    rw [List.getLastD_eq_getLast?, List.getLast?_eq_getElem?, List.getElem?_eq_getElem (by omega)]
    rfl
theorem last_any (b mb cb m : Nat) (hd : Nat → Nat × Nat) (S : Dv) (fp : Nat → Prop) (k : Nat) (w : World) (h : DevIn w b mb cb m hd S fp) (hk : k < S.med.length) :
    Calls Tryz.prog 33 #[.pointer (some ⟨b, 0, none⟩), .int .i64 (k : Int)] w fun e w' => e = .returned (.pointer (some ⟨lastG S mb hd k, lastI S k * 64, none⟩)) ∧ w = w' := by
  have c0 := h.c0
  have c1 := h.c1
  have hn := h.ok.n2
  have hlook := h.map.look (k : Int) (wfN k (by omega))
  unfold lastG lastI
  by_cases e : S.since k = []
  · have e1 : hdOf S hd (k : Int) = none := by unfold hdOf; rw [if_pos (.inr (by simpa using e))]
    rw [e1] at hlook
    simp only [e, if_true]
    clear h e e1
    generalize S.med.length = n at *
    simp only [Hd.val] at hlook
    go_enter Tryz.func33, Tryz.ntmps33
    go_wp2
    go_ret
    exact ⟨rfl, rfl⟩
  · have e1 : hdOf S hd (k : Int) = some ((hd k).1, (S.since k).length, (hd k).2) := by
      unfold hdOf; rw [if_neg (by simpa using e)]; rfl
    rw [e1] at hlook
    have hp : 0 < (S.since k).length := List.length_pos_iff.2 e
    have hc := (h.vers k e).le
    have hc2 := (h.vers k e).cap
    simp only [e, if_false]
    clear h e e1
    generalize (S.since k).length = q at *
    obtain ⟨j, rfl⟩ : ∃ j, q = j + 1 := ⟨q - 1, by omega⟩
    generalize S.med.length = n at *
    simp only [Hd.val] at hlook
    unfold maxLen at hc2
    go_enter Tryz.func33, Tryz.ntmps33
    go_wp2
    go_ret
    exact ⟨rfl, rfl⟩

def strOf (s : Sec) : ByteArray := ⟨s.toArray⟩
theorem conv_sec (w : World) (g o : Nat) (s : Sec) (h : w.rangeAt g o (secCells s)) (hs : s.length = 64) :
    (convert 79 9 (.slice (some ⟨g, o, none⟩) 64 64)).run Tryz.prog w = .ok (.string (strOf s)) w := by
  have := run_convert_bytes_back (P := Tryz.prog) w 79 9 5 ⟨g, o, none⟩ 64 s Tryz.underlying79 Tryz.underlying5 Tryz.underlying9 (fun j hj => by
    rw [Addr.add_mid]
    exact h j _ (by rw [secCells, List.getElem?_map, List.getElem?_eq_getElem hj]; rfl))
  rw [hs] at this
  exact this
theorem read_ok (b : Nat) (S : Dv) (fp : Nat → Prop) (k : Nat) (w : World) (h : DevAt w b S fp) (hl : S.lost = false) (hk : k < S.med.length) :
    Calls Tryz.prog 47 #[.pointer (some ⟨b, 0, none⟩), .int .i64 (k : Int)] w fun e w' => e = .returned (.tuple #[.string (strOf (S.now k)), .int .i64 0]) ∧ w = w' := by
  have hR := reach_any b S fp k w h
  rw [show reachE S (k : Int) = 0 by unfold reachE; rw [hl]; simp; omega] at hR
  obtain ⟨mb, cb, m, hd, h⟩ := h
  have hA := last_any b mb cb m hd S fp k w h hk
  obtain ⟨hr, hi, hnow⟩ := last_rows h k hk
  have hc := conv_sec w _ _ _ (hr.range _ hi) (hr.at_ _ hi)
  rw [hnow] at hc
  clear hr hnow hi h
  generalize lastG S mb hd k = g at *
  generalize lastI S k * 64 = o at *
  generalize strOf (S.now k) = t at *
  go_enter Tryz.func47, Tryz.ntmps47
  go_wp2_with fail
  refine hR.mono ?_
  rintro e w1 ⟨rfl, rfl⟩
  go_wp2_with fail
  refine hA.mono ?_
  rintro e w1 ⟨rfl, rfl⟩
  go_wp2
  go_ret2
  exact ⟨rfl, rfl⟩
theorem read_no (b : Nat) (S : Dv) (fp : Nat → Prop) (k : Int) (w : World) (h : DevAt w b S fp) (he : ¬ reachE S k = 0) :
    Calls Tryz.prog 47 #[.pointer (some ⟨b, 0, none⟩), .int .i64 k] w fun e w' => e = .returned (.tuple #[.string ⟨#[]⟩, .int .i64 (reachE S k)]) ∧ w = w' := by
  have hR := reach_any b S fp k w h
  clear h
  generalize reachE S k = x at *
  have he1 : (x == 0) = false := by simpa using he
  have he2 : (x != 0) = true := by simpa using he
  go_enter Tryz.func47, Tryz.ntmps47
  go_wp2_with fail
  refine hR.mono ?_
  rintro e w1 ⟨rfl, rfl⟩
  go_wp2
  go_ret2
  exact ⟨rfl, rfl⟩
theorem read_nil (k : Int) (w : World) :
    Calls Tryz.prog 47 #[.pointer none, .int .i64 k] w fun e w' => e = .returned (.tuple #[.string ⟨#[]⟩, .int .i64 6]) ∧ w = w' := by
  go_enter Tryz.func47, Tryz.ntmps47
  go_wp2_with fail
  refine (reach_nil _ _).mono ?_
  rintro e w1 ⟨rfl, rfl⟩
  go_wp2
  go_ret2
  exact ⟨rfl, rfl⟩

theorem Did.of {w w' : World} {b mb cb m : Nat} {hd : Nat → Nat × Nat} {S : Dv} {fp : Nat → Prop} (h : DevIn w' b mb cb m hd S fp) (ht : Turn fp w w') : Did fp b S w w' := ⟨fp, ⟨mb, cb, m, hd, h⟩, fun _ h => .inl h, ht⟩
theorem wpList_clear {P : Program} {ops : Array Oper} {rest : List Oper} {o : Oper} {a : Act} {Q : Exit → Act → World → Prop} (w : World) (hgd : o.guard = none) (x : Operand) (t : TypeId)
    (ho : o.op = .call { callee := .builtin .clear, args := #[x], argTypes := #[t] }) (xv : Value) (hx : a.eval x = xv) (w' : World) (hr : (Builtin.clear_ #[t] o.type #[xv]).run P w = .ok (.tuple #[]) w')
    (h : wpList P ops Q rest (a.put o.dst (.tuple #[])) w') : wpList P ops Q (o :: rest) a w := by
  refine wpList_plain hgd fun K' hK' => ?_
  unfold Oper.wp
  simp [execOp, ho, resolve, invoke, builtin, hx, hr, Result.andThen]
  exact hK' _ _ h
/-- The cache is emptied. -/
def Dv.bare (S : Dv) : Dv := { S with since := fun _ => [], cnt := 0 }
theorem DevIn.wiped {w w' : World} {b mb cb m : Nat} {hd : Nat → Nat × Nat} {S : Dv} {fp : Nat → Prop} (h : DevIn w b mb cb m hd S fp) (hc : CMap w' cb 0 fun _ => none) (ht : w.mapTurned w' cb) : DevIn w' b mb cb 0 hd S.bare fp := by
  have hg := ht.grown
  have ho : ∀ k, k < w.heap.size → k ≠ cb → w'.heap[k]? = w.heap[k]? := fun k hk hne => hg.block k hk (fun e => by cases e; exact hne rfl)
  refine ⟨⟨h.ok.n1, h.ok.n2, fun _ _ => rfl, h.ok.left, fun _ => Nat.le_refl _⟩, (ho b h.blt h.cbb.symm).trans h.blk, h.med.same (ho _ h.med.lt h.cmb.symm), hc.congr fun k _ => ?_, Nat.le_refl _, fun i hi => absurd rfl hi, fun i _ hi => absurd rfl hi, fun i hi => absurd rfl hi, h.fb, h.fm, h.fc,
    fun i hi => absurd rfl hi, fun k hk => by rw [mapTurned_size ht]; exact h.lt k hk⟩
  unfold hdOf
  rw [if_pos (.inr rfl)]
theorem wipe_any {w : World} {b mb cb m : Nat} {hd : Nat → Nat × Nat} {S : Dv} {fp : Nat → Prop} (h : DevIn w b mb cb m hd S fp) (ty : TypeId) :
    ∃ w', (Builtin.clear_ #[99] ty #[.map (some cb)]).run Tryz.prog w = .ok (.tuple #[]) w' ∧ DevIn w' b mb cb 0 hd S.bare fp ∧ Turn fp w w' := by
  obtain ⟨w', h1, h2, h3⟩ := h.map.wipe ty
  exact ⟨w', h1, h.wiped h2 h3, (Turn.refl _ _).mapTurned h.fc h3⟩
theorem lose_nil (w : World) :
    Calls Tryz.prog 16 #[.pointer none] w fun e w' => e = .returned (.tuple #[]) ∧ w = w' := by
  go_enter Tryz.func16, Tryz.ntmps16
  go_wp2
  exact bodyPost_ret (results_none rfl _ _ _) rfl ⟨rfl, rfl⟩
theorem lose_any (b : Nat) (S : Dv) (fp : Nat → Prop) (w : World) (h : DevAt w b S fp) :
    Calls Tryz.prog 16 #[.pointer (some ⟨b, 0, none⟩)] w fun e w' => e = .returned (.tuple #[]) ∧ Did fp b { S.bare with lost := true } w w' := by
  obtain ⟨mb, cb, m, hd, h⟩ := h
  have c2 := h.c2
  have f2 := h.fr 2
  have c1 := h.c1
  have h2 := h.set2 true
  have H := Lib.hid h
  have t1 : Turn fp w (w.setCell ⟨b, 2, none⟩ (.bool true)) := (Turn.refl _ _).setCell (.inl h.fb) _
  clear h
  go_enter Tryz.func16, Tryz.ntmps16
  go_wp2_with (obtain ⟨w', hr, h3, h4⟩ := wipe_any h2 _; refine wpList_clear _ rfl _ _ rfl _ rfl _ hr ?_)
  go_end0
  exact ⟨rfl, Did.of h3 (t1.trans h4 fun _ h => .inl h)⟩
end Go.Proofs.YtiffkbmcikiioaaGreat

/- Write. -/
namespace Go.Proofs.YtiffkbmcikiioaaGreat
set_option maxRecDepth 100000
open Go.RowKit Go.Maps

/-- What is written stands behind what was written before. -/
def Dv.put (S : Dv) (k : Nat) (x : Sec) : Dv := { S with since := fun i => if i = k then S.since k ++ [x] else S.since i, cnt := S.cnt + 1 }
theorem info_sec : ∃ i z, Tryz.prog.info? 103 = some i ∧ i.zero = some z ∧ i.size = 64 ∧ i.bytes = 64 ∧ z.cells.size = 64 := by
  obtain ⟨i, h1, h2, h3, h4⟩ := info_parts (P := Tryz.prog) (e := 103) (z := .agg (Array.replicate 64 (.int .u8 0))) (size := 64) (bytes := 64) (by kernel_rfl)
  exact ⟨i, _, h1, h2, h3, h4, by simp [Value.cells]⟩
theorem grown_turn {fp : Nat → Prop} {w w' : World} {v : Option Nat} (h : w.grownBy w' v) (hv : ∀ k, v = some k → fp k) : Turn fp w w' :=
  ⟨h.os, h.tape, h.output, h.size, fun k hk hn => h.block k hk (fun e => hn (hv k e.symm))⟩

theorem write_core {W : World} {b mb cb m : Nat} {hd : Nat → Nat × Nat} {S : Dv} {fp : Nat → Prop} (h : DevIn W b mb cb m hd S fp) (k : Nat) (hk : k < S.med.length) (q : Nat) (x : Sec) (hx : x.length = 64) (hq : W.rangeAt q 0 (secCells x)) (hc : S.cnt < 4294967296) (ty : TypeId) :
    ∃ g c w1 w2, (Builtin.append_ #[98, 98] ty #[(hdOf S hd k).val, .slice (some ⟨q, 0, none⟩) 1 1]).run Tryz.prog W = .ok (.slice (some ⟨g, 0, none⟩) ((S.since k).length + 1) c) w1 ∧
      (Instr.mapUpdate 99 (.map (some cb)) (.int .i64 (k : Int)) (.slice (some ⟨g, 0, none⟩) ((S.since k).length + 1) c)).run Tryz.prog w1 = .ok () w2 ∧
      Turn fp W w1 ∧ w1.cell? ⟨b, 1, none⟩ = some (.map (some cb)) ∧ w2.cell? ⟨b, 1, none⟩ = some (.map (some cb)) ∧ Did fp b (S.put k x) W w2 := by
  obtain ⟨i, z, hi, hz, hs, hb, hzs⟩ := info_sec
  have hn2 := h.ok.n2
  have hlen := h.ok.cnts k
  have hown : W.ownsRow 0 103 64 (hdOf S hd k).val (S.since k).length (flat (S.since k)) := by
    unfold hdOf
    by_cases e : S.since k = []
    · rw [if_pos (.inr (by simpa using e)), e]
      exact World.ownsRow_nil _ _ _ _
    · rw [if_neg (by simpa using e)]
      exact (h.vers k e).owns 0 (Nat.zero_le _)
  have hblk : ∀ j, ((hdOf S hd k).val).ownBlock = some j → S.since k ≠ [] ∧ j = (hd k).1 := by
    intro j
    unfold hdOf
    by_cases e : S.since k = []
    · rw [if_pos (.inr (by simpa using e))]
      intro h; cases h
    · rw [if_neg (by simpa using e)]
      intro h; cases h
      exact ⟨e, rfl⟩
  obtain ⟨v', w1, hr1, ho1, hg1, _, hloc⟩ := run_append_own_at (P := Tryz.prog) W 0 98 ty 103 i z 64 64 Tryz.underlying98 hi hz hs hb hzs (by decide) _ _ _ hown ⟨q, 0, none⟩ 1 1 (secCells x)
    (by rw [secCells_len, hx]) (fun j u hu => by have := hq j u hu; rw [Addr.add_mid]; exact this) (secCells_one x) (by unfold maxLen; omega) (by omega) (Nat.zero_le _)
  rcases ho1.2 with ⟨_, h0⟩ | ⟨g, c, cur, rfl, _, hcur, _⟩
  · omega
  have hall : ∀ s ∈ S.since k ++ [x], s.length = 64 := by
    intro s hs
    rcases List.mem_append.1 hs with hs | hs
    · exact (h.vers k (List.ne_nil_of_mem hs)).len s hs
    · rw [List.mem_singleton.1 hs]; exact hx
  have hrow : Rows w1 g c (S.since k ++ [x]) := by
    refine rows_of_owns (B := 0) (n := (S.since k).length + 1) (by simp) ?_ hall
    have e : flat (S.since k ++ [x]) = flat (S.since k) ++ secCells x := by rw [flat_app]; simp [flat]
    rw [e]
    exact ho1
  have ht1 : Turn fp W w1 := grown_turn hg1 fun j hj => by obtain ⟨e1, rfl⟩ := hblk j hj; exact h.fv k e1
  have hgl : (S.since k ≠ [] ∧ g = (hd k).1) ∨ g = W.heap.size := by
    rcases hloc with e | e
    · exact .inl (hblk g (by rw [← e]; rfl))
    · right; simpa [Value.ownBlock] using e
  have hsame : ∀ j, j < W.heap.size → (S.since k ≠ [] → j ≠ (hd k).1) → w1.heap[j]? = W.heap[j]? := fun j hj hne => hg1.block j hj (fun e => by
    obtain ⟨e1, e2⟩ := hblk j e.symm
    exact hne e1 e2)
  have hmap1 : CMap w1 cb m (hdOf S hd) := h.map.same (hsame cb h.map.lt fun e => h.cv k e)
  have hm := h.mle
  obtain ⟨w2, hr2, hmap2, ht2⟩ := hmap1.put (k : Int) (wfN k (by omega)) (g, (S.since k).length + 1, c) (by unfold maxLen; omega)
  have hb1 : w1.heap[b]? = W.heap[b]? := hsame b h.blt fun e => h.bv k e
  have hg2 := ht2.grown
  have hsame2 : ∀ j, j < w1.heap.size → j ≠ cb → w2.heap[j]? = w1.heap[j]? := fun j hj hne => hg2.block j hj (fun e => by cases e; exact hne rfl)
  have hz1 := hg1.size
  have hcb1 : cb < w1.heap.size := hmap1.lt
  have hgcb : g ≠ cb := by
    intro e
    obtain ⟨es, cl, hm⟩ := hmap1.isMap
    rw [← e, hcur] at hm
    cases hm
  have hb2 : w2.heap[b]? = W.heap[b]? := (hsame2 b (Nat.lt_of_lt_of_le h.blt hz1) h.cbb.symm).trans hb1
  have hgne : ∀ j, S.since j ≠ [] → j ≠ k → (hd j).1 ≠ g := by
    intro j hj hjk e
    rcases hgl with ⟨e1, e2⟩ | e1
    · exact hjk (h.inj j k hj e1 (e.trans e2))
    · have := h.lt _ (h.fv j hj); omega
  have hgmb : g ≠ mb := by
    intro e
    rcases hgl with ⟨e1, e2⟩ | e1
    · exact h.apart k e1 (e2.symm.trans e)
    · have := h.med.lt; omega
  refine ⟨g, c, w1, w2, hr1, hr2, ht1, ?_, ?_, fun j => fp j ∨ j = g, ⟨mb, cb, m + 1, fun j => if j = k then (g, c) else hd j, ?_⟩, ?_, ht1.mapTurned h.fc ht2⟩
  · rw [World.cell?_of_block (w := W) hb1]; exact h.c1
  · rw [World.cell?_of_block (w := W) hb2]; exact h.c1
  · have hput : ∀ j, (S.put k x).since j = if j = k then S.since k ++ [x] else S.since j := fun _ => rfl
    refine ⟨⟨h.ok.n1, h.ok.n2, fun j hj => ?_, h.ok.left, fun j => ?_⟩, hb2.trans h.blk, ?_, ?_, by show m + 1 ≤ S.cnt + 1; omega, fun j hj => ?_, fun j j' hj hj' he => ?_, fun j hj => ?_, .inl h.fb, .inl h.fm, .inl h.fc, fun j hj => ?_, fun j hj => ?_⟩
    · have hj' : S.med.length ≤ j := hj
      rw [hput, if_neg (by omega)]; exact h.ok.out j hj
    · have := h.ok.cnts j
      rw [hput]
      show _ ≤ S.cnt + 1
      split
      · simp; omega
      · omega
    · exact h.med.same ((hsame2 mb (Nat.lt_of_lt_of_le h.med.lt hz1) h.cmb.symm).trans (hsame mb h.med.lt fun e => (h.apart k e).symm))
    · refine hmap2.congr fun j hj => ?_
      unfold hdOf
      by_cases e : j = (k : Int)
      · subst e
        simp [hput]
      · simp only [if_neg e]
        by_cases e2 : j < 0
        · simp [e2]
        · have e3 : ¬ j.toNat = k := by omega
          simp [hput, e3]
    · rw [hput] at hj ⊢
      by_cases e : j = k
      · subst e
        simp only [if_true]
        exact hrow.same (hsame2 g hrow.lt hgcb)
      · simp only [if_neg e] at hj ⊢
        have hv := h.vers j hj
        exact hv.same ((hsame2 _ (Nat.lt_of_lt_of_le hv.lt hz1) (h.cv j hj).symm).trans (hsame _ hv.lt fun e1 e2 => e (h.inj j k hj e1 e2)))
    · rw [hput] at hj hj'
      by_cases e : j = k
      · by_cases e' : j' = k
        · omega
        · simp only [if_neg e'] at hj' he
          simp only [if_pos e] at he
          exact absurd he.symm (hgne j' hj' e')
      · simp only [if_neg e] at hj he
        by_cases e' : j' = k
        · simp only [if_pos e'] at he
          exact absurd he (hgne j hj e)
        · simp only [if_neg e'] at hj' he
          exact h.inj j j' hj hj' he
    · rw [hput] at hj
      by_cases e : j = k
      · simp only [if_pos e]; exact hgmb
      · simp only [if_neg e] at hj ⊢
        exact h.apart j hj
    · rw [hput] at hj
      by_cases e : j = k
      · simp only [if_pos e]; exact .inr trivial
      · simp only [if_neg e] at hj ⊢
        exact .inl (h.fv j hj)
    · rw [mapTurned_size ht2]
      rcases hj with hj | rfl
      · exact Nat.lt_of_lt_of_le (h.lt j hj) hz1
      · exact hrow.lt
  · intro j hj
    rcases hj with hj | rfl
    · exact .inl hj
    · rcases hgl with ⟨e1, e2⟩ | e1
      · left; rw [e2]; exact h.fv k e1
      · right; omega
end Go.Proofs.YtiffkbmcikiioaaGreat
