/-
  A device in memory, and what its small methods answer.
-/
import Derived.Test.YtmkheikllbjcbaaDk
namespace Go.Proofs.Ytmkheikllbjcbaa
open Go.RowKit Go.Maps

/-- A device, as it is thought: what stands on the medium, what was written since, and the rest. cnt: a bound for how much was written since. -/
structure Dv where
  med : List Sec
  since : Nat → List Sec
  lost : Bool
  fused : Bool
  left : Nat
  cnt : Nat
structure DvOk (S : Dv) : Prop where
  n1 : 1 ≤ S.med.length
  n2 : S.med.length ≤ 4096
  out : ∀ i, S.med.length ≤ i → S.since i = []
  left : S.left < 9223372036854775808
  cnts : ∀ i, (S.since i).length ≤ S.cnt
/-- Nothing has turned but blocks of which fp holds, and new ones. -/
structure Turn (fp : Nat → Prop) (w w' : World) : Prop where
  os : w'.os = w.os
  tape : w'.tape = w.tape
  output : w'.output = w.output
  size : w.heap.size ≤ w'.heap.size
  block : ∀ k, k < w.heap.size → ¬ fp k → w'.heap[k]? = w.heap[k]?
theorem Turn.refl (fp : Nat → Prop) (w : World) : Turn fp w w := ⟨rfl, rfl, rfl, Nat.le_refl _, fun _ _ _ => rfl⟩
theorem Turn.trans {fp fp' : Nat → Prop} {a b c : World} (h : Turn fp a b) (k : Turn fp' b c) (hf : ∀ i, fp' i → fp i ∨ a.heap.size ≤ i) : Turn fp a c :=
  ⟨k.os.trans h.os, k.tape.trans h.tape, k.output.trans h.output, Nat.le_trans h.size k.size, fun i hi hn => (k.block i (Nat.lt_of_lt_of_le hi h.size) (fun e => by rcases hf i e with e | e; exact hn e; omega)).trans (h.block i hi hn)⟩
theorem Turn.below {fp : Nat → Prop} {B : Nat} {w w' : World} (h : Turn fp w w') (hB : ∀ k, fp k → B ≤ k) (hs : B ≤ w.heap.size) : Below B w w' :=
  ⟨h.os, h.tape, h.output, h.size, fun k hk => h.block k (by omega) fun e => by have := hB k e; omega⟩
theorem Turn.of_below {fp : Nat → Prop} {w w' : World} (h : Below w.heap.size w w') : Turn fp w w' := ⟨h.os, h.tape, h.output, h.size, fun k hk _ => h.block k hk⟩
theorem Turn.setCell {fp : Nat → Prop} {a w : World} (h : Turn fp a w) {p : Addr} (hp : fp p.block ∨ a.heap.size ≤ p.block) (u : Value) : Turn fp a (w.setCell p u) :=
  ⟨h.os, h.tape, h.output, by simpa [World.setCell] using h.size, fun k hk hn => by
    rw [Below.heap_setCell _ _ _ _ (fun e => by rcases hp with hp | hp; exact hn (e ▸ hp); omega)]
    exact h.block k hk hn⟩
theorem heap_setCells (b : Nat) : ∀ (vs : List Value) (o : Nat) (w : World), (w.setCells b o vs).heap.size = w.heap.size ∧ ∀ k, k ≠ b → (w.setCells b o vs).heap[k]? = w.heap[k]?
  | [], _, _ => ⟨rfl, fun _ _ => rfl⟩
  | v :: r, o, w => by
    obtain ⟨h1, h2⟩ := heap_setCells b r (o + 1) (w.setCell ⟨b, o, none⟩ v)
    exact ⟨h1.trans (by simp [World.setCell]), fun k hk => (h2 k hk).trans (Below.heap_setCell _ _ _ _ hk)⟩
theorem env_setCells (b : Nat) : ∀ (vs : List Value) (o : Nat) (w : World), (w.setCells b o vs).os = w.os ∧ (w.setCells b o vs).tape = w.tape ∧ (w.setCells b o vs).output = w.output
  | [], _, _ => ⟨rfl, rfl, rfl⟩
  | v :: r, o, w => env_setCells b r (o + 1) (w.setCell ⟨b, o, none⟩ v)
theorem Turn.setCells {fp : Nat → Prop} {a w : World} (h : Turn fp a w) {b : Nat} (hp : fp b) (o : Nat) (vs : List Value) : Turn fp a (w.setCells b o vs) := by
  obtain ⟨h1, h2⟩ := heap_setCells b vs o w
  obtain ⟨e1, e2, e3⟩ := env_setCells b vs o w
  exact ⟨e1.trans h.os, e2.trans h.tape, e3.trans h.output, by rw [h1]; exact h.size, fun k hk hn => (h2 k (fun e => hn (e ▸ hp))).trans (h.block k hk hn)⟩
theorem Turn.mapTurned {fp : Nat → Prop} {a w w' : World} (h : Turn fp a w) {b : Nat} (hp : fp b) (ht : w.mapTurned w' b) : Turn fp a w' := by
  have hg := ht.grown
  exact ⟨hg.os.trans h.os, hg.tape.trans h.tape, hg.output.trans h.output, Nat.le_trans h.size hg.size, fun k hk hn => (hg.block k (Nat.lt_of_lt_of_le hk h.size) (fun e => by cases e; exact hn hp)).trans (h.block k hk hn)⟩
theorem mapTurned_size {w w' : World} {b : Nat} (ht : w.mapTurned w' b) : w'.heap.size = w.heap.size := by
  obtain ⟨_, _, _, _, _, rfl⟩ := ht
  simp [ChangeMaps.setBlock]

/-- The heads of the slices of versions. -/
def hdOf (S : Dv) (hd : Nat → Nat × Nat) (k : Int) : Hd :=
  if k < 0 ∨ S.since k.toNat = [] then none else some ((hd k.toNat).1, (S.since k.toNat).length, (hd k.toNat).2)
/-- The cells of the device's own block. -/
def dvCells (S : Dv) (mb cb : Nat) : Array Value := #[.slice (some ⟨mb, 0, none⟩) S.med.length S.med.length, .map (some cb), .bool S.lost, .bool S.fused, .int .i64 (S.left : Int)]
structure DevIn (w : World) (b mb cb m : Nat) (hd : Nat → Nat × Nat) (S : Dv) (fp : Nat → Prop) : Prop where
  ok : DvOk S
  blk : w.heap[b]? = some (.cells (dvCells S mb cb) 61 (0, 0))
  med : Rows w mb S.med.length S.med
  map : CMap w cb m (hdOf S hd)
  mle : m ≤ S.cnt
  vers : ∀ i, S.since i ≠ [] → Rows w (hd i).1 (hd i).2 (S.since i)
  inj : ∀ i j, S.since i ≠ [] → S.since j ≠ [] → (hd i).1 = (hd j).1 → i = j
  apart : ∀ i, S.since i ≠ [] → (hd i).1 ≠ mb
  fb : fp b
  fm : fp mb
  fc : fp cb
  fv : ∀ i, S.since i ≠ [] → fp (hd i).1
  lt : ∀ k, fp k → k < w.heap.size
/-- Block b is a device S; fp holds of its blocks. -/
def DevAt (w : World) (b : Nat) (S : Dv) (fp : Nat → Prop) : Prop := ∃ mb cb m hd, DevIn w b mb cb m hd S fp

section
variable {w : World} {b mb cb m : Nat} {hd : Nat → Nat × Nat} {S : Dv} {fp : Nat → Prop}
theorem DevIn.bm (h : DevIn w b mb cb m hd S fp) : b ≠ mb := by
  intro e
  obtain ⟨cur, h1, _⟩ := h.med.shape
  have := h.blk
  rw [e, h1] at this
  cases this
theorem DevIn.bv (h : DevIn w b mb cb m hd S fp) (i : Nat) (hi : S.since i ≠ []) : b ≠ (hd i).1 := by
  intro e
  obtain ⟨cur, h1, _⟩ := (h.vers i hi).shape
  have := h.blk
  rw [e, h1] at this
  cases this
theorem DevIn.cbb (h : DevIn w b mb cb m hd S fp) : cb ≠ b := by
  intro e
  obtain ⟨es, cl, h1⟩ := h.map.isMap
  rw [e, h.blk] at h1
  cases h1
theorem DevIn.cmb (h : DevIn w b mb cb m hd S fp) : cb ≠ mb := by
  intro e
  obtain ⟨es, cl, h1⟩ := h.map.isMap
  obtain ⟨cur, h2, _⟩ := h.med.shape
  rw [e, h2] at h1
  cases h1
theorem DevIn.cv (h : DevIn w b mb cb m hd S fp) (i : Nat) (hi : S.since i ≠ []) : cb ≠ (hd i).1 := by
  intro e
  obtain ⟨es, cl, h1⟩ := h.map.isMap
  obtain ⟨cur, h2, _⟩ := (h.vers i hi).shape
  rw [e, h2] at h1
  cases h1
theorem DevIn.c0 (h : DevIn w b mb cb m hd S fp) : w.cell? ⟨b, 0, none⟩ = some (.slice (some ⟨mb, 0, none⟩) S.med.length S.med.length) := by simp [World.cell?, h.blk, dvCells]
theorem DevIn.c1 (h : DevIn w b mb cb m hd S fp) : w.cell? ⟨b, 1, none⟩ = some (.map (some cb)) := by simp [World.cell?, h.blk, dvCells]
theorem DevIn.c2 (h : DevIn w b mb cb m hd S fp) : w.cell? ⟨b, 2, none⟩ = some (.bool S.lost) := by simp [World.cell?, h.blk, dvCells]
theorem DevIn.c3 (h : DevIn w b mb cb m hd S fp) : w.cell? ⟨b, 3, none⟩ = some (.bool S.fused) := by simp [World.cell?, h.blk, dvCells]
theorem DevIn.c4 (h : DevIn w b mb cb m hd S fp) : w.cell? ⟨b, 4, none⟩ = some (.int .i64 (S.left : Int)) := by simp [World.cell?, h.blk, dvCells]
theorem DevIn.fr (h : DevIn w b mb cb m hd S fp) (o : Nat) : w.frozen? ⟨b, o, none⟩ = false := by simp [World.frozen?, h.blk]
theorem DevIn.blt (h : DevIn w b mb cb m hd S fp) : b < w.heap.size := h.lt b h.fb

/-- Only fields of the device's own block have turned. -/
theorem DevIn.field (h : DevIn w b mb cb m hd S fp) (S' : Dv) (e1 : S'.med = S.med) (e2 : S'.since = S.since) (e3 : S'.cnt = S.cnt) (hl : S'.left < 9223372036854775808) (w' : World) (hz : w'.heap.size = w.heap.size)
    (hb : w'.heap[b]? = some (.cells (dvCells S' mb cb) 61 (0, 0))) (ho : ∀ k, k ≠ b → w'.heap[k]? = w.heap[k]?) : DevIn w' b mb cb m hd S' fp := by
  obtain ⟨med', since', lost', fused', left', cnt'⟩ := S'
  simp only at e1 e2 e3 hl
  subst e1 e2 e3
  exact ⟨⟨h.ok.n1, h.ok.n2, h.ok.out, hl, h.ok.cnts⟩, hb, h.med.same (ho _ h.bm.symm), h.map.same (ho _ h.cbb), h.mle, fun i hi => (h.vers i hi).same (ho _ (h.bv i hi).symm), h.inj, h.apart, h.fb, h.fm, h.fc, h.fv, fun k hk => by rw [hz]; exact h.lt k hk⟩
theorem DevIn.set2 (h : DevIn w b mb cb m hd S fp) (x : Bool) : DevIn (w.setCell ⟨b, 2, none⟩ (.bool x)) b mb cb m hd { S with lost := x } fp :=
  h.field { S with lost := x } rfl rfl rfl h.ok.left _ (by simp [World.setCell]) (by simp [World.setCell, Array.getElem?_modify, h.blk, dvCells]) fun k hk => Below.heap_setCell _ _ _ _ hk
theorem DevIn.set3 (h : DevIn w b mb cb m hd S fp) (x : Bool) : DevIn (w.setCell ⟨b, 3, none⟩ (.bool x)) b mb cb m hd { S with fused := x } fp :=
  h.field { S with fused := x } rfl rfl rfl h.ok.left _ (by simp [World.setCell]) (by simp [World.setCell, Array.getElem?_modify, h.blk, dvCells]) fun k hk => Below.heap_setCell _ _ _ _ hk
theorem DevIn.set4 (h : DevIn w b mb cb m hd S fp) (x : Nat) (hx : x < 9223372036854775808) : DevIn (w.setCell ⟨b, 4, none⟩ (.int .i64 (x : Int))) b mb cb m hd { S with left := x } fp :=
  h.field { S with left := x } rfl rfl rfl hx _ (by simp [World.setCell]) (by simp [World.setCell, Array.getElem?_modify, h.blk, dvCells]) fun k hk => Below.heap_setCell _ _ _ _ hk
/-- None of the device's blocks has turned. -/
theorem DevIn.same (h : DevIn w b mb cb m hd S fp) {w' : World} (hz : w.heap.size ≤ w'.heap.size) (ho : ∀ k, fp k → w'.heap[k]? = w.heap[k]?) : DevIn w' b mb cb m hd S fp :=
  ⟨h.ok, (ho b h.fb).trans h.blk, h.med.same (ho _ h.fm), h.map.same (ho _ h.fc), h.mle, fun i hi => (h.vers i hi).same (ho _ (h.fv i hi)), h.inj, h.apart, h.fb, h.fm, h.fc, h.fv, fun k hk => Nat.lt_of_lt_of_le (h.lt k hk) hz⟩
theorem DevIn.below (h : DevIn w b mb cb m hd S fp) {w' : World} (hb : Below w.heap.size w w') : DevIn w' b mb cb m hd S fp := h.same hb.size fun k hk => hb.block k (h.lt k hk)
theorem DevAt.same (h : DevAt w b S fp) {w' : World} (hz : w.heap.size ≤ w'.heap.size) (ho : ∀ k, fp k → w'.heap[k]? = w.heap[k]?) : DevAt w' b S fp := by
  obtain ⟨mb, cb, m, hd, h⟩ := h
  exact ⟨mb, cb, m, hd, h.same hz ho⟩
theorem DevAt.below (h : DevAt w b S fp) {w' : World} (hb : Below w.heap.size w w') : DevAt w' b S fp := by
  obtain ⟨mb, cb, m, hd, h⟩ := h
  exact ⟨mb, cb, m, hd, h.below hb⟩
theorem DevAt.ok (h : DevAt w b S fp) : DvOk S := by
  obtain ⟨mb, cb, m, hd, h⟩ := h
  exact h.ok
theorem DevAt.drew (h : DevAt w b S fp) : DevAt w.drew b S fp := h.below (Below.refl _ _).drew
theorem DevIn.drew (h : DevIn w b mb cb m hd S fp) : DevIn w.drew b mb cb m hd S fp := h.below (Below.refl _ _).drew
end

/-- What becomes of a world in which something was done to a device. -/
def Did (fp : Nat → Prop) (b : Nat) (S' : Dv) (w w' : World) : Prop := ∃ fp', DevAt w' b S' fp' ∧ (∀ k, fp' k → fp k ∨ w.heap.size ≤ k) ∧ Turn fp w w'

theorem lost_any (b : Nat) (S : Dv) (fp : Nat → Prop) (w : World) (h : DevAt w b S fp) :
    Calls Try.prog 27 #[.pointer (some ⟨b, 0, none⟩)] w fun e w' => e = .returned (.bool S.lost) ∧ w = w' := by
  obtain ⟨mb, cb, m, hd, h⟩ := h
  have c2 := h.c2
  clear h
  go_enter Try.func27, Try.ntmps27
  go_wp2
  go_ret
  exact ⟨rfl, rfl⟩
theorem lost_nil (w : World) :
    Calls Try.prog 27 #[.pointer none] w fun e w' => e = .returned (.bool true) ∧ w = w' := by
  go_enter Try.func27, Try.ntmps27
  go_wp2
  go_ret
  exact ⟨rfl, rfl⟩
theorem secs_any (b : Nat) (S : Dv) (fp : Nat → Prop) (w : World) (h : DevAt w b S fp) :
    Calls Try.prog 28 #[.pointer (some ⟨b, 0, none⟩)] w fun e w' => e = .returned (.int .i64 S.med.length) ∧ w = w' := by
  obtain ⟨mb, cb, m, hd, h⟩ := h
  have c0 := h.c0
  clear h
  go_enter Try.func28, Try.ntmps28
  go_wp2
  go_ret
  exact ⟨rfl, rfl⟩
theorem secs_nil (w : World) :
    Calls Try.prog 28 #[.pointer none] w fun e w' => e = .returned (.int .i64 0) ∧ w = w' := by
  go_enter Try.func28, Try.ntmps28
  go_wp2
  go_ret
  exact ⟨rfl, rfl⟩
/-- What keeps a sector from being reached. -/
def reachE (S : Dv) (k : Int) : Int := if S.lost then 6 else if k < 0 ∨ (S.med.length : Int) ≤ k then 5 else 0
theorem reach_any (b : Nat) (S : Dv) (fp : Nat → Prop) (k : Int) (w : World) (h : DevAt w b S fp) :
    Calls Try.prog 29 #[.pointer (some ⟨b, 0, none⟩), .int .i64 k] w fun e w' => e = .returned (.int .i64 (reachE S k)) ∧ w = w' := by
  have hL := lost_any b S fp w h
  obtain ⟨mb, cb, m, hd, h⟩ := h
  have c0 := h.c0
  have hn := h.ok.n2
  clear h
  unfold reachE
  generalize S.lost = L at *
  generalize S.med.length = n at *
  by_cases hk : k < 0
  · go_enter Try.func29, Try.ntmps29
    go_wp2_with fail
    refine hL.mono ?_
    rintro e w1 ⟨rfl, rfl⟩
    cases L
    all_goals
      go_wp2
      go_ret
      exact ⟨by simp [*], rfl⟩
  · have hk' : decide (k < 0) = false := by simpa using hk
    by_cases hm : (n : Int) ≤ k
    · go_enter Try.func29, Try.ntmps29
      go_wp2_with fail
      refine hL.mono ?_
      rintro e w1 ⟨rfl, rfl⟩
      cases L
      all_goals
        go_wp2
        go_ret
        exact ⟨by simp [*], rfl⟩
    · have hm' : decide ((n : Int) ≤ k) = false := by simpa using hm
      go_enter Try.func29, Try.ntmps29
      go_wp2_with fail
      refine hL.mono ?_
      rintro e w1 ⟨rfl, rfl⟩
      cases L
      all_goals
        go_wp2
        go_ret
        exact ⟨by simp [*], rfl⟩
theorem reach_nil (k : Int) (w : World) :
    Calls Try.prog 29 #[.pointer none, .int .i64 k] w fun e w' => e = .returned (.int .i64 6) ∧ w = w' := by
  go_enter Try.func29, Try.ntmps29
  go_wp2_with fail
  refine (lost_nil _).mono ?_
  rintro e w1 ⟨rfl, rfl⟩
  go_wp2
  go_ret
  exact ⟨rfl, rfl⟩
end Go.Proofs.Ytmkheikllbjcbaa
