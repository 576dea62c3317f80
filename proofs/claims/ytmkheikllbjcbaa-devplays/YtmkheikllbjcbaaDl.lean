/-
  Spoil, Fresh, New.
-/
import Derived.Test.YtmkheikllbjcbaaDj
import Derived.StillTailTactics
import Derived.Laws.BitsAllLaws
namespace Go.Proofs.Ytmkheikllbjcbaa
open Go.RowKit Go.Maps

/-- What is left of a device of which a sector's text was turned where it reads. -/
def Dv.turn (S : Dv) (k : Nat) (x : Sec) : Dv :=
  if S.since k = [] then { S with med := S.med.set k x } else { S with since := fun i => if i = k then (S.since k).set ((S.since k).length - 1) x else S.since i }
/-- A byte of what a sector reads as is made one with another. -/
def spoilt (s : Sec) (p : Nat) (by_ : UInt8) : Sec := s.set p ((s.getD p 0) ^^^ by_)
theorem DevIn.medCell {w : World} {b mb cb m : Nat} {hd : Nat → Nat × Nat} {S : Dv} {fp : Nat → Prop} (h : DevIn w b mb cb m hd S fp) (k : Nat) (hk : k < S.med.length) (p : Nat) (hp : p < 64) (x : UInt8) :
    DevIn (w.setCell ⟨mb, k * 64 + p, none⟩ (.int .u8 (x.toNat : Int))) b mb cb m hd { S with med := S.med.set k (S.med[k].set p x) } fp := by
  have h2 : ∀ j, j ≠ mb → (w.setCell ⟨mb, k * 64 + p, none⟩ (.int .u8 (x.toNat : Int))).heap[j]? = w.heap[j]? := fun j hj => Below.heap_setCell _ _ _ _ hj
  have e : (S.med.set k (S.med[k].set p x)).length = S.med.length := List.length_set
  refine ⟨⟨by rw [e]; exact h.ok.n1, by rw [e]; exact h.ok.n2, fun i hi => h.ok.out i (by rw [← e]; exact hi), h.ok.left, h.ok.cnts⟩, ?_, ?_, h.map.same (h2 _ h.cmb), h.mle, fun i hi => (h.vers i hi).same (h2 _ (h.apart i hi)), h.inj, h.apart, h.fb, h.fm, h.fc, h.fv, fun j hj => by simpa [World.setCell] using h.lt j hj⟩
  · rw [h2 _ h.bm, h.blk]
    unfold dvCells
    rw [e]
  · have := h.med.setCell k hk p hp x
    show Rows _ mb (S.med.set k (S.med[k].set p x)).length _
    rw [e]
    exact this
theorem DevIn.verCell {w : World} {b mb cb m : Nat} {hd : Nat → Nat × Nat} {S : Dv} {fp : Nat → Prop} (h : DevIn w b mb cb m hd S fp) (k : Nat) (hk : S.since k ≠ []) (i : Nat) (hi : i < (S.since k).length) (p : Nat) (hp : p < 64) (x : UInt8) :
    DevIn (w.setCell ⟨(hd k).1, i * 64 + p, none⟩ (.int .u8 (x.toNat : Int))) b mb cb m hd { S with since := fun j => if j = k then (S.since k).set i ((S.since k)[i].set p x) else S.since j } fp := by
  have h2 : ∀ j, j ≠ (hd k).1 → (w.setCell ⟨(hd k).1, i * 64 + p, none⟩ (.int .u8 (x.toNat : Int))).heap[j]? = w.heap[j]? := fun j hj => Below.heap_setCell _ _ _ _ hj
  have hs : ∀ j, (if j = k then (S.since k).set i ((S.since k)[i].set p x) else S.since j) = [] ↔ S.since j = [] := fun j => by
    by_cases e : j = k
    · subst e; simp
    · simp [e]
  have hl : ∀ j, (if j = k then (S.since k).set i ((S.since k)[i].set p x) else S.since j).length = (S.since j).length := fun j => by
    by_cases e : j = k
    · subst e; simp
    · simp [e]
  refine ⟨⟨h.ok.n1, h.ok.n2, fun j hj => (hs j).2 (h.ok.out j hj), h.ok.left, fun j => ?_⟩, (h2 _ (h.bv k hk)).trans h.blk, h.med.same (h2 _ (h.apart k hk).symm), (h.map.same (h2 _ (h.cv k hk))).congr fun j _ => ?_, h.mle, fun j hj => ?_, fun j j' hj hj' => ?_, fun j hj => ?_, h.fb, h.fm, h.fc, fun j hj => ?_, fun j hj => by simpa [World.setCell] using h.lt j hj⟩
  · simp only [hl]; exact h.ok.cnts j
  · unfold hdOf
    simp only [hs, hl]
  · have hj' : S.since j ≠ [] := fun e => hj ((hs j).2 e)
    by_cases e : j = k
    · subst e
      simp only [if_true]
      exact (h.vers j hj').setCell i hi p hp x
    · simp only [if_neg e]
      exact (h.vers j hj').same (h2 _ fun e' => e (h.inj j k hj' hk e'))
  · exact h.inj j j' (fun e => hj ((hs j).2 e)) (fun e => hj' ((hs j').2 e))
  · exact h.apart j (fun e => hj ((hs j).2 e))
  · exact h.fv j (fun e => hj ((hs j).2 e))
theorem DevIn.turned {w : World} {b mb cb m : Nat} {hd : Nat → Nat × Nat} {S : Dv} {fp : Nat → Prop} (h : DevIn w b mb cb m hd S fp) (k : Nat) (hk : k < S.med.length) (p : Nat) (hp : p < 64) (by_ : UInt8) :
    DevIn (w.setCell ⟨lastG S mb hd k, lastI S k * 64 + p, none⟩ (.int .u8 (((S.now k).getD p 0 ^^^ by_).toNat : Int))) b mb cb m hd (S.turn k (spoilt (S.now k) p by_)) fp := by
  obtain ⟨_, hi, hnow⟩ := last_rows h k hk
  unfold lastG lastI Dv.turn spoilt
  unfold lastL lastI at hi hnow
  by_cases e : S.since k = []
  · simp only [e, if_true] at hi hnow ⊢
    have := h.medCell k hk p hp ((S.now k).getD p 0 ^^^ by_)
    rw [hnow] at this
    exact this
  · simp only [e, if_false] at hi hnow ⊢
    have := h.verCell k e _ hi p hp ((S.now k).getD p 0 ^^^ by_)
    rw [hnow] at this
    exact this
theorem lastFp {w : World} {b mb cb m : Nat} {hd : Nat → Nat × Nat} {S : Dv} {fp : Nat → Prop} (h : DevIn w b mb cb m hd S fp) (k : Nat) : fp (lastG S mb hd k) := by
  unfold lastG
  split
  · exact h.fm
  · rename_i e; exact h.fv k e

theorem spoil_nil (k p : Int) (c : Int) (w : World) (hc : (c == 0) = false) :
    Calls Try.prog 23 #[.pointer none, .int .i64 k, .int .i64 p, .int .u8 c] w fun e w' => e = .returned (.bool false) ∧ w = w' := by
  go_enter Try.func23, Try.ntmps23
  go_wp2_with fail
  refine (reach_nil _ _).mono ?_
  rintro e w1 ⟨rfl, rfl⟩
  go_wp2
  go_ret
  exact ⟨rfl, rfl⟩
theorem spoil_zero (d : Value) (k p : Int) (w : World) :
    Calls Try.prog 23 #[d, .int .i64 k, .int .i64 p, .int .u8 0] w fun e w' => e = .returned (.bool false) ∧ w = w' := by
  go_enter Try.func23, Try.ntmps23
  go_wp2
  go_ret
  exact ⟨rfl, rfl⟩
theorem spoil_no (b : Nat) (S : Dv) (fp : Nat → Prop) (k p : Int) (c : Int) (w : World) (h : DevAt w b S fp) (hc : (c == 0) = false) (he : ¬ reachE S k = 0) :
    Calls Try.prog 23 #[.pointer (some ⟨b, 0, none⟩), .int .i64 k, .int .i64 p, .int .u8 c] w fun e w' => e = .returned (.bool false) ∧ w = w' := by
  have hR := reach_any b S fp k w h
  clear h
  generalize reachE S k = x at *
  have he1 : (x == 0) = false := by simpa using he
  have he2 : (x != 0) = true := by simpa using he
  go_enter Try.func23, Try.ntmps23
  go_wp2_with fail
  refine hR.mono ?_
  rintro e w1 ⟨rfl, rfl⟩
  go_wp2
  go_ret
  exact ⟨rfl, rfl⟩
theorem bits_xor (a b : UInt8) : bits BinOp.xor IntKind.u8 (a.toNat : Int) (b.toNat : Int) = ((a ^^^ b).toNat : Int) := by
  rw [u8_xor_nat _ _ (UInt8.toNat_lt a) (UInt8.toNat_lt b), UInt8.toNat_xor]
set_option maxHeartbeats 1000000 in
theorem spoil_ok (b : Nat) (S : Dv) (fp : Nat → Prop) (k : Nat) (p : Int) (c : UInt8) (w : World) (h : DevAt w b S fp) (hl : S.lost = false) (hk : k < S.med.length) (hc : c ≠ 0) :
    Calls Try.prog 23 #[.pointer (some ⟨b, 0, none⟩), .int .i64 (k : Int), .int .i64 p, .int .u8 (c.toNat : Int)] w fun e w' => e = .returned (.bool true) ∧ Did fp b (S.turn k (spoilt (S.now k) (p % 64).toNat c)) w w' := by
  have hR := reach_any b S fp k w h
  rw [show reachE S (k : Int) = 0 by unfold reachE; rw [hl]; simp; omega] at hR
  obtain ⟨mb, cb, m, hd, h⟩ := h
  have hA := fun w' (hb : Below w.heap.size w w') => last_any b mb cb m hd S fp k w' (h.below hb) hk
  have hP := fun w' => rest_any p 64 w' ⟨by omega, by omega⟩
  have hp0 := Int.emod_nonneg p (show (64 : Int) ≠ 0 by omega)
  have hp1 := Int.emod_lt_of_pos p (show (0 : Int) < 64 by omega)
  obtain ⟨q, hq⟩ : ∃ q : Nat, p % 64 = q := ⟨(p % 64).toNat, by omega⟩
  rw [hq] at hP hp1
  have HQ := Lib.hid hq
  clear hq hp0
  have hc0 : ((c.toNat : Int) == 0) = false := by
    simp
    intro e; apply hc; exact UInt8.toNat_inj.1 (by simpa using e)
  obtain ⟨hr, hi, hnow⟩ := last_rows h k hk
  have hcell := hr.byte (lastI S k) hi q (by omega)
  rw [hnow] at hcell
  have hfz := hr.shape.frozen (lastI S k * 64 + q)
  have HT := Lib.hid (h.drew.turned k hk q (by omega) c)
  have T := Lib.hid (((Turn.of_below (fp := fp) (Below.refl _ w).drew).setCell (p := ⟨lastG S mb hd k, lastI S k * 64 + q, none⟩) (.inl (lastFp h k)) (.int .u8 (((S.now k).getD q 0 ^^^ c).toNat : Int))))
  clear hr hi hnow h
  generalize lastG S mb hd k = g at *
  generalize lastI S k * 64 = o at *
  generalize hy : (S.now k).getD q 0 = y at *
  clear hy
  go_enter Try.func23, Try.ntmps23
  go_wp2_with fail
  refine hR.mono ?_
  rintro e w1 ⟨rfl, rfl⟩
  go_wp2_with fail
  have hcellD : w.drew.cell? ⟨g, o + q, none⟩ = some (.int .u8 (y.toNat : Int)) := hcell
  have hfzD : w.drew.frozen? ⟨g, o + q, none⟩ = false := hfz
  refine wp_region_still_tail 12 (by kernel_rfl) (by kernel_rfl) ?_
  simp only [List.take_succ_cons, List.take_zero, List.drop_succ_cons, List.drop_zero]
  still_step
  still_step
  still_call ((hA _ (Below.refl _ w).drew).mono fun _ _ ⟨he, hw⟩ => ⟨he, hw.symm⟩)
  still_step
  still_call ((hP _).mono fun _ _ ⟨he, hw⟩ => ⟨he, hw.symm⟩)
  repeat still_step
  refine wpStill_nil ?_
  clear hA hP
  have hv := bits_xor y c
  rw [hv]
  clear hv
  generalize hz : (y ^^^ c) = z at *
  clear hz
  go_wp2
  go_ret
  rw [HQ.out, Int.toNat_natCast]
  exact ⟨rfl, Did.of HT.out T.out⟩
end Go.Proofs.Ytmkheikllbjcbaa
