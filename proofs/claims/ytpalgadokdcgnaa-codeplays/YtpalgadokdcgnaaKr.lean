/-
  What the laws that range over tries keep: a measure, a place, a text, and the answer, in boxes; and columns one device's of which are spoilt.
-/
import Derived.Test.YtpalgadokdcgnaaMe
namespace Go.Proofs.Ytpalgadokdcgnaa
set_option maxRecDepth 100000
open Go.RowKit M

structure HQ (w0 w : World) (a : Option Addr) (n c : Nat) (sc : Int) (l : List (Int × Int)) (k t : Int) (s : ByteArray) : Prop where
  h : HeldP w0 w w0.heap.size (w0.heap.size + 1) a n c sc l k t
  tx : w.cell? ⟨w0.heap.size + 2, 0, none⟩ = some (.string s)
  r : w.cell? ⟨w0.heap.size + 3, 0, none⟩ = some (.bool false)
  rf : w.frozen? ⟨w0.heap.size + 3, 0, none⟩ = false
  lt : w0.heap.size + 3 < w.heap.size
theorem HQ.next {w0 w w' : World} {a : Option Addr} {n c : Nat} {sc : Int} {l : List (Int × Int)} {k t : Int} {s : ByteArray} (h : HQ w0 w a n c sc l k t s) (b : Below w.heap.size w w') : HQ w0 w' a n c sc l k t s :=
  ⟨h.h.next b, (b.cell (p := ⟨w0.heap.size + 2, 0, none⟩) (by show w0.heap.size + 2 < _; have := h.lt; omega)).trans h.tx, (b.cell (p := ⟨w0.heap.size + 3, 0, none⟩) h.lt).trans h.r, (b.frozen (p := ⟨w0.heap.size + 3, 0, none⟩) h.lt).trans h.rf, Nat.lt_of_lt_of_le h.lt b.size⟩
theorem HQ.start {w : World} {a : Option Addr} {n c : Nat} {sc : Int} {l : List (Int × Int)} (k t : Int) (s : ByteArray) (h : Meas w (.agg #[.slice a n c, .int .i64 sc]) l sc) :
    HQ w ((((w.alloc (.cells #[.slice a n c, .int .i64 sc] 24)).alloc (.cells #[.int .i64 k, .int .i64 t] 26)).alloc (.cells #[.string s] 9)).alloc (.cells #[.bool false] 4)) a n c sc l k t s :=
  ⟨((HeldP.start k t h).next (boxed _ _)).next (boxed _ _), box_kept (by simp) (boxed _ _), box_now _ _ _ (by simp), by
    have e : w.heap.size + 3 = (((w.alloc (.cells #[.slice a n c, .int .i64 sc] 24)).alloc (.cells #[.int .i64 k, .int .i64 t] 26)).alloc (.cells #[.string s] 9)).heap.size := by simp
    rw [e]; exact World.frozen?_alloc_at _ _ _ _ rfl, by simp⟩
theorem ColsAt.set {w : World} {g : Nat} {L : List C} (h : ColsAt w g L) {p : Addr} (hp : p.block ≠ g) (v : Value) : ColsAt (w.setCell p v) g L :=
  ⟨by simpa [World.setCell] using h.lt, fun j hj => IsC.of fun i hi => by
    rw [World.cell?_setCell_other _ _ _ _ (by intro e; exact hp (by rw [e]))]
    exact (h.at_ j hj).get i hi⟩

/-- Spoilt columns: of a Parity a device's, of a Mirror all others'. -/
structure Spo (L : List C) (f : Nat → ByteArray) (d : Int) (mir : Bool) (G : List ByteArray) : Prop where
  len : G.length = L.length
  at_ : ∀ j, j < L.length → G.getD j ⟨#[]⟩ = encAt L f j ∨ (((devAt L j == d) != mir) = true ∧ ((G.getD j ⟨#[]⟩).size = 0 ∨ (G.getD j ⟨#[]⟩).size = 64))
theorem Spo.start (L : List C) (f : Nat → ByteArray) (d : Int) (mir : Bool) : Spo L f d mir (encL L f) := ⟨encL_len L f, fun j hj => .inl (encL_getD L f j hj)⟩
theorem getD_set (G : List ByteArray) (i j : Nat) (y : ByteArray) (hi : i < G.length) : (G.set i y).getD j ⟨#[]⟩ = if i = j then y else G.getD j ⟨#[]⟩ := by
  by_cases e : i = j
  · subst e
    rw [List.getD_eq_getElem?_getD, List.getElem?_set_self hi, if_pos rfl]; rfl
  · rw [List.getD_eq_getElem?_getD, List.getElem?_set_ne e, if_neg e, List.getD_eq_getElem?_getD]
theorem Spo.set {L : List C} {f : Nat → ByteArray} {d : Int} {mir : Bool} {G : List ByteArray} (h : Spo L f d mir G) {i : Nat} (hi : i < L.length) {y : ByteArray} (hd : ((devAt L i == d) != mir) = true) (hy : y.size = 0 ∨ y.size = 64) : Spo L f d mir (G.set i y) := by
  refine ⟨by rw [List.length_set]; exact h.len, fun j hj => ?_⟩
  rw [getD_set G i j y (by rw [h.len]; exact hi)]
  by_cases e : i = j
  · subst e
    rw [if_pos rfl]
    exact .inr ⟨hd, hy⟩
  · rw [if_neg e]
    exact h.at_ j hj
theorem mem_getD {G : List ByteArray} {x : ByteArray} (h : x ∈ G) : ∃ j, j < G.length ∧ G.getD j ⟨#[]⟩ = x := by
  obtain ⟨j, hj, rfl⟩ := List.getElem_of_mem h
  exact ⟨j, hj, getD_some ⟨hj, rfl⟩⟩
section
variable {l : List (Int × Int)} {sc : Int} {k t z : Nat} {s : ByteArray} {kk : Int} {u : Nat} {L : List C} {f : Nat → ByteArray}
theorem Spo.sizes (h : Enc7 l sc k t z s kk u L f) {d : Int} {mir : Bool} {G : List ByteArray} (hS : Spo L f d mir G) : ∀ x ∈ G, x.size = 0 ∨ x.size = 64 := by
  intro x hx
  obtain ⟨j, hj, rfl⟩ := mem_getD hx
  rw [hS.len] at hj
  rcases hS.at_ j hj with e | ⟨_, e⟩
  · rw [e]; exact .inr (enc_size h.sound h.hf j hj)
  · exact e
theorem Enc7.dev_row (h : Enc7 l sc k t z s kk u L f) {i j : Nat} (hi : i < L.length) (hj : j < L.length) (hij : i ≠ j) (hr : rowAt L i = rowAt L j) : devAt L i ≠ devAt L j := by
  obtain ⟨R, hR⟩ := h.rows
  rw [rowAt_eq hi, rowAt_eq hj] at hr
  rw [devAt_eq hi, devAt_eq hj]
  rcases Nat.lt_or_ge i j with h1 | h1
  · exact hR.devs i j hi hj h1 hr
  · exact fun e => hR.devs j i hj hi (by omega) hr.symm e.symm
/-- A Parity one device's columns of which are spoilt: the text is among the tries. -/
theorem Enc7.oneP (h : Enc7 l sc k t z s kk u L f) (h1 : kk = 1) {d : Int} {G : List ByteArray} (hS : Spo L f d false G) : ∃ x, (x, s) ∈ triesOf l sc k t z G := by
  rw [h.tries hS.len (hS.sizes h), if_neg (by rw [h1]; decide)]
  have hag : ∀ j, j < L.length → devAt L j ≠ d → G.getD j ⟨#[]⟩ = encAt L f j := fun j hj hd => by
    rcases hS.at_ j hj with e | ⟨e, _⟩
    · exact e
    · have : (devAt L j == d) = false := by simpa using hd
      rw [this] at e
      cases e
  by_cases hex : ∃ j, j < L.length ∧ parAt L j = false ∧ devAt L j = d
  · obtain ⟨j0, hj0, hp0, hd0⟩ := hex
    refine ⟨d, ?_⟩
    unfold triesP
    rw [List.mem_filterMap]
    refine ⟨d, List.mem_cons_of_mem _ ((devsS_spec _).2 d |>.2 ?_), h.tryP h1 fun j hj hp => ?_⟩
    · refine List.mem_map.2 ⟨L[j0], ?_, by rw [← devAt_eq hj0]; exact hd0⟩
      unfold datL
      rw [List.mem_filter]
      exact ⟨List.getElem_mem _, by rw [← parAt_eq hj0, hp0]; rfl⟩
    · by_cases hd : devAt L j = d
      · rw [if_pos hd]
        refine h.agn h1 hj hp fun i hi hr hne => hag i hi fun e => ?_
        exact h.dev_row hi hj hne hr (by rw [e, hd])
      · rw [if_neg hd]
        exact hag j hj hd
  · refine ⟨-1, ?_⟩
    unfold triesP
    rw [List.mem_filterMap]
    refine ⟨-1, List.mem_cons_self, h.tryP h1 fun j hj hp => ?_⟩
    have h0 := h.blk.dev j (by rw [h.hL]; exact hj)
    have hL := h.hL
    subst hL
    rw [if_neg (by rw [devAt_eq hj]; omega)]
    exact hag j hj fun e => hex ⟨j, hj, hp, e⟩
/-- A Mirror one device's columns of which are right: the text is among the tries. -/
theorem Enc7.oneM (h : Enc7 l sc k t z s kk u L f) (h0 : kk = 0) {dn : Nat} (hd : dn < u) {G : List ByteArray} (hS : Spo L f (aheadL l k + (dn : Int)) true G) : ∃ x, (x, s) ∈ triesOf l sc k t z G := by
  rw [h.tries hS.len (hS.sizes h), if_pos h0]
  refine ⟨aheadL l k + (dn : Int), ?_⟩
  unfold triesM
  rw [List.mem_filterMap]
  refine ⟨dn, List.mem_range.2 hd, h.tryM h0 hS.len hd fun i hi => ?_⟩
  obtain ⟨_, hl, _⟩ := h.mir h0
  have hb : dn * z + z ≤ u * z := by rw [← Nat.succ_mul]; exact Nat.mul_le_mul_right _ hd
  have hj : dn * z + i < L.length := by rw [hl]; omega
  rcases hS.at_ _ hj with e | ⟨e, _⟩
  · exact e
  · rw [h.devM h0 hj] at e
    have hdv : (dn * z + i) / z = dn := by
      rw [Nat.add_comm, Nat.add_mul_div_right _ _ h.blk.z1, Nat.div_eq_of_lt hi, Nat.zero_add]
    rw [hdv] at e
    simp at e
end
end Go.Proofs.Ytpalgadokdcgnaa
