/-
  What pass, rest, last and Read of a device answer.
-/
import Derived.Test.YtmkheikllbjcbaaDd
import Derived.Laws.BytesString
import Derived.IntWalk
namespace Go.Proofs.Ytmkheikllbjcbaa
open Go.RowKit Go.Maps

/-- Whether a write or a flush is let through, and what is left then. -/
def Dv.pass (S : Dv) : Bool := !S.fused || decide (0 < S.left)
def Dv.spent (S : Dv) : Dv := { S with left := if S.fused then S.left - 1 else S.left }
theorem pass_any (b mb cb m : Nat) (hd : Nat → Nat × Nat) (S : Dv) (fp : Nat → Prop) (w : World) (h : DevIn w b mb cb m hd S fp) :
    Calls Try.prog 30 #[.pointer (some ⟨b, 0, none⟩)] w fun e w' => e = .returned (.bool S.pass) ∧ DevIn w' b mb cb m hd S.spent fp ∧ Turn fp w w' ∧ w'.heap.size = w.heap.size := by
  have c3 := h.c3
  have c4 := h.c4
  have f4 := h.fr 4
  have hl := h.ok.left
  have H := Lib.hid h
  clear h
  by_cases hf : S.fused = true
  · by_cases h0 : S.left = 0
    · rw [hf] at c3
      rw [h0] at c4
      go_enter Try.func30, Try.ntmps30
      go_wp2
      go_ret
      refine ⟨by simp [Dv.pass, hf, h0], ?_, Turn.refl _ _, rfl⟩
      have e : S.spent = S := by unfold Dv.spent; rw [hf, h0]; cases S; simp_all
      rw [e]
      exact H.out
    · rw [hf] at c3
      have h1 : ((S.left : Int) == 0) = false := by simp; omega
      have HS : Hid ((S.left : Int) - 1 = ((S.left - 1 : Nat) : Int)) := by show (S.left : Int) - 1 = _; omega
      go_enter Try.func30, Try.ntmps30
      go_wp2
      go_ret
      rw [HS.out]
      refine ⟨by simp [Dv.pass, hf]; omega, ?_, (Turn.refl _ _).setCell (.inl H.out.fb) _, by simp [World.setCell]⟩
      have e : S.spent = { S with left := S.left - 1 } := by unfold Dv.spent; rw [hf]; simp
      rw [e]
      exact H.out.set4 _ (by omega)
  · have hf' : S.fused = false := by simpa using hf
    rw [hf'] at c3
    go_enter Try.func30, Try.ntmps30
    go_wp2
    go_ret
    refine ⟨by simp [Dv.pass, hf'], ?_, Turn.refl _ _, rfl⟩
    have e : S.spent = S := by unfold Dv.spent; rw [hf']; cases S; simp_all
    rw [e]
    exact H.out

theorem tmod_low (n m : Int) (h : 0 < m) : -m < n.tmod m := by
  rw [Int.tmod_eq_emod]
  have h1 := Int.emod_nonneg n (show m ≠ 0 by omega)
  split
  · omega
  · rename_i hcond
    have : n % m ≠ 0 := fun e => hcond (.inr (Int.dvd_of_emod_eq_zero e))
    omega
theorem emod_tmod (n m : Int) (h : 0 < m) : n % m = if n.tmod m < 0 then n.tmod m + m else n.tmod m := by
  have h1 := Int.emod_nonneg n (show m ≠ 0 by omega)
  have h2 := Int.emod_lt_of_pos n h
  rw [Int.tmod_eq_emod]
  split
  · rw [if_neg (by omega)]; omega
  · rename_i hcond
    have : n % m ≠ 0 := fun e => hcond (.inr (Int.dvd_of_emod_eq_zero e))
    rw [if_pos (by omega)]
    omega
theorem rest_any (n m : Int) (w : World) (hm : 0 < m ∧ m ≤ 4611686018427387904) :
    Calls Try.prog 34 #[.int .i64 n, .int .i64 m] w fun e w' => e = .returned (.int .i64 (n % m)) ∧ w = w' := by
  obtain ⟨hm0, hm1⟩ := hm
  have e1 : n.tmod m < m := Int.tmod_lt_of_pos _ hm0
  have e2 : -m < n.tmod m := tmod_low n m hm0
  have HE := Lib.hid (emod_tmod n m hm0)
  have hne : ¬ m = 0 := by omega
  have hne' : (m == 0) = false := by simpa using hne
  by_cases hr : n.tmod m < 0
  · go_enter Try.func34, Try.ntmps34
    go_wp2
    go_ret
    exact ⟨by rw [HE.out, if_pos hr]; rfl, rfl⟩
  · have hr' : decide (n.tmod m < 0) = false := by simpa using hr
    go_enter Try.func34, Try.ntmps34
    go_wp2
    go_ret
    exact ⟨by rw [HE.out, if_neg (by omega)]; rfl, rfl⟩
/-- Where that stands which a sector reads as: the block, the place in its row, and the row. -/
def lastG (S : Dv) (mb : Nat) (hd : Nat → Nat × Nat) (k : Nat) : Nat := if S.since k = [] then mb else (hd k).1
def lastI (S : Dv) (k : Nat) : Nat := if S.since k = [] then k else (S.since k).length - 1
def lastL (S : Dv) (k : Nat) : List Sec := if S.since k = [] then S.med else S.since k
def lastC (S : Dv) (hd : Nat → Nat × Nat) (k : Nat) : Nat := if S.since k = [] then S.med.length else (hd k).2
/-- What a sector reads as. -/
def Dv.now (S : Dv) (k : Nat) : Sec := (S.since k).getLastD (S.med.getD k [])
theorem last_rows {w : World} {b mb cb m : Nat} {hd : Nat → Nat × Nat} {S : Dv} {fp : Nat → Prop} (h : DevIn w b mb cb m hd S fp) (k : Nat) (hk : k < S.med.length) :
    Rows w (lastG S mb hd k) (lastC S hd k) (lastL S k) ∧ ∃ hi : lastI S k < (lastL S k).length, (lastL S k)[lastI S k] = S.now k := by
  unfold lastG lastC lastL lastI Dv.now
  by_cases e : S.since k = []
  · simp only [e, if_true]
    refine ⟨h.med, hk, ?_⟩
    simp [List.getD_eq_getElem?_getD, List.getElem?_eq_getElem hk]
  · simp only [e, if_false]
    have hp : 0 < (S.since k).length := List.length_pos_iff.2 e
    refine ⟨h.vers k e, by omega, ?_⟩
    rw [List.getLastD_eq_getLast?, List.getLast?_eq_getElem?, List.getElem?_eq_getElem (by omega)]
    rfl
theorem last_any (b mb cb m : Nat) (hd : Nat → Nat × Nat) (S : Dv) (fp : Nat → Prop) (k : Nat) (w : World) (h : DevIn w b mb cb m hd S fp) (hk : k < S.med.length) :
    Calls Try.prog 31 #[.pointer (some ⟨b, 0, none⟩), .int .i64 (k : Int)] w fun e w' => e = .returned (.pointer (some ⟨lastG S mb hd k, lastI S k * 64, none⟩)) ∧ w = w' := by
  have c0 := h.c0
  have c1 := h.c1
  have hn := h.ok.n2
  have hlook := h.map.look (k : Int) (wfN k (by omega))
  unfold lastG lastI
  by_cases e : S.since k = []
  · have e1 : hdOf S hd (k : Int) = none := by unfold hdOf; rw [if_pos (.inr (by simpa using e))]
    rw [e1] at hlook
    simp only [e, if_true]
    clear h e e1
    generalize S.med.length = n at *
    simp only [Hd.val] at hlook
    go_enter Try.func31, Try.ntmps31
    go_wp2
    go_ret
    exact ⟨rfl, rfl⟩
  · have e1 : hdOf S hd (k : Int) = some ((hd k).1, (S.since k).length, (hd k).2) := by
      unfold hdOf; rw [if_neg (by simpa using e)]; rfl
    rw [e1] at hlook
    have hp : 0 < (S.since k).length := List.length_pos_iff.2 e
    have hc := (h.vers k e).le
    have hc2 := (h.vers k e).cap
    simp only [e, if_false]
    clear h e e1
    generalize (S.since k).length = q at *
    obtain ⟨j, rfl⟩ : ∃ j, q = j + 1 := ⟨q - 1, by omega⟩
    generalize S.med.length = n at *
    simp only [Hd.val] at hlook
    unfold maxLen at hc2
    go_enter Try.func31, Try.ntmps31
    go_wp2
    go_ret
    exact ⟨rfl, rfl⟩

def strOf (s : Sec) : ByteArray := ⟨s.toArray⟩
theorem conv_sec (w : World) (g o : Nat) (s : Sec) (h : w.rangeAt g o (secCells s)) (hs : s.length = 64) :
    (convert 40 9 (.slice (some ⟨g, o, none⟩) 64 64)).run Try.prog w = .ok (.string (strOf s)) w := by
  have := run_convert_bytes_back (P := Try.prog) w 40 9 5 ⟨g, o, none⟩ 64 s Try.underlying40 Try.underlying5 Try.underlying9 (fun j hj => by
    rw [Addr.add_mid]
    exact h j _ (by rw [secCells, List.getElem?_map, List.getElem?_eq_getElem hj]; rfl))
  rw [hs] at this
  exact this
theorem read_ok (b : Nat) (S : Dv) (fp : Nat → Prop) (k : Nat) (w : World) (h : DevAt w b S fp) (hl : S.lost = false) (hk : k < S.med.length) :
    Calls Try.prog 16 #[.pointer (some ⟨b, 0, none⟩), .int .i64 (k : Int)] w fun e w' => e = .returned (.tuple #[.string (strOf (S.now k)), .int .i64 0]) ∧ w = w' := by
  have hR := reach_any b S fp k w h
  rw [show reachE S (k : Int) = 0 by unfold reachE; rw [hl]; simp; omega] at hR
  obtain ⟨mb, cb, m, hd, h⟩ := h
  have hA := last_any b mb cb m hd S fp k w h hk
  obtain ⟨hr, hi, hnow⟩ := last_rows h k hk
  have hc := conv_sec w _ _ _ (hr.range _ hi) (hr.at_ _ hi)
  rw [hnow] at hc
  clear hr hnow hi h
  generalize lastG S mb hd k = g at *
  generalize lastI S k * 64 = o at *
  generalize strOf (S.now k) = t at *
  go_enter Try.func16, Try.ntmps16
  go_wp2_with fail
  refine hR.mono ?_
  rintro e w1 ⟨rfl, rfl⟩
  go_wp2_with fail
  refine hA.mono ?_
  rintro e w1 ⟨rfl, rfl⟩
  go_wp2
  go_ret2
  exact ⟨rfl, rfl⟩
theorem read_no (b : Nat) (S : Dv) (fp : Nat → Prop) (k : Int) (w : World) (h : DevAt w b S fp) (he : ¬ reachE S k = 0) :
    Calls Try.prog 16 #[.pointer (some ⟨b, 0, none⟩), .int .i64 k] w fun e w' => e = .returned (.tuple #[.string ⟨#[]⟩, .int .i64 (reachE S k)]) ∧ w = w' := by
  have hR := reach_any b S fp k w h
  clear h
  generalize reachE S k = x at *
  have he1 : (x == 0) = false := by simpa using he
  have he2 : (x != 0) = true := by simpa using he
  go_enter Try.func16, Try.ntmps16
  go_wp2_with fail
  refine hR.mono ?_
  rintro e w1 ⟨rfl, rfl⟩
  go_wp2
  go_ret2
  exact ⟨rfl, rfl⟩
theorem read_nil (k : Int) (w : World) :
    Calls Try.prog 16 #[.pointer none, .int .i64 k] w fun e w' => e = .returned (.tuple #[.string ⟨#[]⟩, .int .i64 6]) ∧ w = w' := by
  go_enter Try.func16, Try.ntmps16
  go_wp2_with fail
  refine (reach_nil _ _).mono ?_
  rintro e w1 ⟨rfl, rfl⟩
  go_wp2
  go_ret2
  exact ⟨rfl, rfl⟩

/-- Fuse. -/
theorem fuse_nil (n : Int) (w : World) :
    Calls Try.prog 26 #[.pointer none, .int .i64 n] w fun e w' => e = .returned (.tuple #[]) ∧ w = w' := by
  go_enter Try.func26, Try.ntmps26
  go_wp2
  exact bodyPost_ret (results_none rfl _ _ _) rfl ⟨rfl, rfl⟩
theorem Did.of {w w' : World} {b mb cb m : Nat} {hd : Nat → Nat × Nat} {S : Dv} {fp : Nat → Prop} (h : DevIn w' b mb cb m hd S fp) (ht : Turn fp w w') : Did fp b S w w' := ⟨fp, ⟨mb, cb, m, hd, h⟩, fun _ h => .inl h, ht⟩
theorem fuse_any (b : Nat) (S : Dv) (fp : Nat → Prop) (n : Int) (w : World) (h : DevAt w b S fp) (hn : n ≤ 9223372036854775807) :
    Calls Try.prog 26 #[.pointer (some ⟨b, 0, none⟩), .int .i64 n] w fun e w' => e = .returned (.tuple #[]) ∧ Did fp b { S with fused := true, left := n.toNat } w w' := by
  obtain ⟨mb, cb, m, hd, h⟩ := h
  have c3 := h.c3
  have c4 := h.c4
  have f3 := h.fr 3
  have f4 := h.fr 4
  have H := Lib.hid h
  clear h
  by_cases h0 : n < 0
  · go_enter Try.func26, Try.ntmps26
    go_wp2
    go_end0
    refine ⟨rfl, ?_⟩
    rw [show n.toNat = 0 by omega]
    exact Did.of ((H.out.set3 true).set4 0 (by omega)) (((Turn.refl _ _).setCell (.inl H.out.fb) _).setCell (.inl H.out.fb) _)
  · have hx : 0 ≤ n := by omega
    obtain ⟨k, rfl⟩ : ∃ k : Nat, n = k := ⟨n.toNat, by omega⟩
    go_enter Try.func26, Try.ntmps26
    go_wp2
    go_end0
    exact ⟨rfl, Did.of ((H.out.set3 true).set4 k (by omega)) (((Turn.refl _ _).setCell (.inl H.out.fb) _).setCell (.inl H.out.fb) _)⟩

theorem wpList_clear {P : Program} {ops : Array Oper} {rest : List Oper} {o : Oper} {a : Act} {Q : Exit → Act → World → Prop} (w : World) (hgd : o.guard = none) (x : Operand) (t : TypeId)
    (ho : o.op = .call { callee := .builtin .clear, args := #[x], argTypes := #[t] }) (xv : Value) (hx : a.eval x = xv) (w' : World) (hr : (Builtin.clear_ #[t] o.type #[xv]).run P w = .ok (.tuple #[]) w')
    (h : wpList P ops Q rest (a.put o.dst (.tuple #[])) w') : wpList P ops Q (o :: rest) a w := by
  refine wpList_plain hgd fun K' hK' => ?_
  unfold Oper.wp
  simp [execOp, ho, resolve, invoke, builtin, hx, hr, Result.andThen]
  exact hK' _ _ h
/-- The cache is emptied. -/
def Dv.bare (S : Dv) : Dv := { S with since := fun _ => [], cnt := 0 }
theorem DevIn.wiped {w w' : World} {b mb cb m : Nat} {hd : Nat → Nat × Nat} {S : Dv} {fp : Nat → Prop} (h : DevIn w b mb cb m hd S fp) (hc : CMap w' cb 0 fun _ => none) (ht : w.mapTurned w' cb) : DevIn w' b mb cb 0 hd S.bare fp := by
  have hg := ht.grown
  have ho : ∀ k, k < w.heap.size → k ≠ cb → w'.heap[k]? = w.heap[k]? := fun k hk hne => hg.block k hk (fun e => by cases e; exact hne rfl)
  refine ⟨⟨h.ok.n1, h.ok.n2, fun _ _ => rfl, h.ok.left, fun _ => Nat.le_refl _⟩, (ho b h.blt h.cbb.symm).trans h.blk, h.med.same (ho _ h.med.lt h.cmb.symm), hc.congr fun k _ => ?_, Nat.le_refl _, fun i hi => absurd rfl hi, fun i _ hi => absurd rfl hi, fun i hi => absurd rfl hi, h.fb, h.fm, h.fc,
    fun i hi => absurd rfl hi, fun k hk => by rw [mapTurned_size ht]; exact h.lt k hk⟩
  unfold hdOf
  rw [if_pos (.inr rfl)]
theorem wipe_any {w : World} {b mb cb m : Nat} {hd : Nat → Nat × Nat} {S : Dv} {fp : Nat → Prop} (h : DevIn w b mb cb m hd S fp) (ty : TypeId) :
    ∃ w', (Builtin.clear_ #[59] ty #[.map (some cb)]).run Try.prog w = .ok (.tuple #[]) w' ∧ DevIn w' b mb cb 0 hd S.bare fp ∧ Turn fp w w' := by
  obtain ⟨w', h1, h2, h3⟩ := h.map.wipe ty
  exact ⟨w', h1, h.wiped h2 h3, (Turn.refl _ _).mapTurned h.fc h3⟩
theorem lose_nil (w : World) :
    Calls Try.prog 24 #[.pointer none] w fun e w' => e = .returned (.tuple #[]) ∧ w = w' := by
  go_enter Try.func24, Try.ntmps24
  go_wp2
  exact bodyPost_ret (results_none rfl _ _ _) rfl ⟨rfl, rfl⟩
theorem lose_any (b : Nat) (S : Dv) (fp : Nat → Prop) (w : World) (h : DevAt w b S fp) :
    Calls Try.prog 24 #[.pointer (some ⟨b, 0, none⟩)] w fun e w' => e = .returned (.tuple #[]) ∧ Did fp b { S.bare with lost := true } w w' := by
  obtain ⟨mb, cb, m, hd, h⟩ := h
  have c2 := h.c2
  have f2 := h.fr 2
  have c1 := h.c1
  have h2 := h.set2 true
  have H := Lib.hid h
  have t1 : Turn fp w (w.setCell ⟨b, 2, none⟩ (.bool true)) := (Turn.refl _ _).setCell (.inl h.fb) _
  clear h
  go_enter Try.func24, Try.ntmps24
  go_wp2_with (obtain ⟨w', hr, h3, h4⟩ := wipe_any h2 _; refine wpList_clear _ rfl _ _ rfl _ rfl _ hr ?_)
  go_end0
  exact ⟨rfl, Did.of h3 (t1.trans h4 fun _ h => .inl h)⟩
end Go.Proofs.Ytmkheikllbjcbaa
