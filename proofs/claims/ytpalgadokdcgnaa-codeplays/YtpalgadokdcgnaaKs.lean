/-
  Columns some of which are missing: what they come to (no program is named here).
-/
import Derived.Test.YtpalgadokdcgnaaKr
namespace Go.Proofs.Ytpalgadokdcgnaa
set_option maxRecDepth 100000
open Go.RowKit M

/-- Some columns are missing, all others are as they are encoded. -/
structure Mis (L : List C) (f : Nat → ByteArray) (G : List ByteArray) : Prop where
  len : G.length = L.length
  at_ : ∀ j, j < L.length → G.getD j ⟨#[]⟩ = encAt L f j ∨ G.getD j ⟨#[]⟩ = ⟨#[]⟩
theorem Mis.start (L : List C) (f : Nat → ByteArray) : Mis L f (encL L f) := ⟨encL_len L f, fun j hj => .inl (encL_getD L f j hj)⟩
theorem Mis.set {L : List C} {f : Nat → ByteArray} {G : List ByteArray} (h : Mis L f G) {i : Nat} (hi : i < L.length) : Mis L f (G.set i ⟨#[]⟩) := by
  refine ⟨by rw [List.length_set]; exact h.len, fun j hj => ?_⟩
  rw [getD_set G i j _ (by rw [h.len]; exact hi)]
  by_cases e : i = j
  · rw [if_pos e]; exact .inr rfl
  · rw [if_neg e]; exact h.at_ j hj
/-- Is a column missing? -/
def isHole (G : List ByteArray) (j : Nat) : Bool := (G.getD j ⟨#[]⟩).size == 0
theorem mkB_hole {l : List ByteArray} {x : ByteArray} (h : x ∈ l) (hx : x.size = 0) : (mkB l).size = 0 := by
  unfold mkB
  split
  · rename_i hok
    rw [parB_size, ← ok_size hok x h, hx]
  · rfl
theorem hole_mem {l : List ByteArray} {x : ByteArray} (h : x ∈ l) (hx : x.size = 0) : holeL l = true := by
  unfold holeL
  rw [List.any_eq_true]
  exact ⟨x, h, by simp [hx]⟩
theorem no_hole {l : List ByteArray} (h : holeL l = false) {x : ByteArray} (hx : x ∈ l) : x.size ≠ 0 := fun e => by
  rw [hole_mem hx e] at h
  cases h
/-- Another column of a row is among those by which a column is made again. -/
theorem agn_mem {L : List C} {G : List ByteArray} {a j : Nat} (ha : a < L.length) (hj : j < L.length) (hr : rowAt L j = rowAt L a) (hne : j ≠ a) : G.getD j ⟨#[]⟩ ∈ (rowG L G (rowAt L a) L.length).eraseIdx (rowG L G (rowAt L a) a).length := by
  obtain ⟨r, h, hm⟩ := idx_split (q := fun j => rowAt L j == rowAt L a) (a := a) (by simp) L.length ha
  have hjm : j ∈ idx (fun j => rowAt L j == rowAt L a) L.length := idx_mem.2 ⟨hj, by simp [hr]⟩
  unfold rowG
  rw [h, List.length_map, List.map_append, List.map_cons, List.eraseIdx_append_of_length_le (by simp), List.length_map, Nat.sub_self, List.eraseIdx_zero, List.tail_cons, ← List.map_append]
  refine List.mem_map.2 ⟨j, ?_, rfl⟩
  rw [h] at hjm
  rcases List.mem_append.1 hjm with h1 | h1
  · exact List.mem_append_left _ h1
  · rcases List.mem_cons.1 h1 with h2 | h2
    · exact absurd h2 hne
    · exact List.mem_append_right _ h2
theorem wth_mem {L : List C} {G : List ByteArray} {d : Int} {j : Nat} (hj : j < L.length) (hp : parAt L j = false) : (if devAt L j = d then agn L G j else G.getD j ⟨#[]⟩) ∈ wth L G d L.length :=
  List.mem_map.2 ⟨j, idx_mem.2 ⟨hj, by simp [hp]⟩, rfl⟩
section
variable {l : List (Int × Int)} {sc : Int} {k t z : Nat} {s : ByteArray} {kk : Int} {u : Nat} {L : List C} {f : Nat → ByteArray}
theorem Mis.sizes (h : Enc7 l sc k t z s kk u L f) {G : List ByteArray} (hS : Mis L f G) : ∀ x ∈ G, x.size = 0 ∨ x.size = 64 := by
  intro x hx
  obtain ⟨j, hj, rfl⟩ := mem_getD hx
  rw [hS.len] at hj
  rcases hS.at_ j hj with e | e
  · rw [e]; exact .inr (enc_size h.sound h.hf j hj)
  · rw [e]; exact .inl rfl
theorem Mis.there {G : List ByteArray} (hS : Mis L f G) {j : Nat} (hj : j < L.length) (hne : (G.getD j ⟨#[]⟩).size ≠ 0) : G.getD j ⟨#[]⟩ = encAt L f j := by
  rcases hS.at_ j hj with e | e
  · exact e
  · rw [e] at hne; exact absurd rfl hne
theorem Enc7.lessP (h : Enc7 l sc k t z s kk u L f) (h1 : kk = 1) {G : List ByteArray} (hS : Mis L f G) : ∀ y ∈ triesOf l sc k t z G, y.2 = s := by
  rw [h.tries hS.len (hS.sizes h), if_neg (by rw [h1]; decide)]
  intro y hy
  unfold triesP at hy
  obtain ⟨d, _, hd⟩ := List.mem_filterMap.1 hy
  have hno : holeL (wth L G d L.length) = false := by
    unfold tryOf at hd
    cases hh : holeL (wth L G d L.length) with
    | false => rfl
    | true => rw [hh] at hd; cases hd
  have := h.tryP h1 (G := G) (d := d) fun j hj hp => by
    have hm := no_hole hno (wth_mem (d := d) hj hp)
    by_cases e : devAt L j = d
    · rw [if_pos e] at hm ⊢
      refine h.agn h1 hj hp fun i hi hr hne => hS.there hi fun e0 => hm ?_
      unfold Proofs.Ytpalgadokdcgnaa.agn
      exact mkB_hole (agn_mem hj hi hr hne) e0
    · rw [if_neg e] at hm ⊢
      exact hS.there hj hm
  rw [this] at hd
  cases hd
  rfl
theorem Enc7.noneP (h : Enc7 l sc k t z s kk u L f) (h1 : kk = 1) {G : List ByteArray} (hS : Mis L f G) {i j : Nat} (hi : i < L.length) (hj : j < L.length) (hij : i ≠ j) (hr : rowAt L i = rowAt L j) (hgi : isHole G i = true) (hgj : isHole G j = true) : triesOf l sc k t z G = [] := by
  rw [h.tries hS.len (hS.sizes h), if_neg (by rw [h1]; decide)]
  unfold isHole at hgi hgj
  rw [beq_iff_eq] at hgi hgj
  have key : ∀ i j, i < L.length → j < L.length → i ≠ j → rowAt L i = rowAt L j → (G.getD i ⟨#[]⟩).size = 0 → (G.getD j ⟨#[]⟩).size = 0 → parAt L i = false → ∀ d, tryOf d (wth L G d L.length) = none := by
    intro i j hi hj hij hr hgi hgj hp d
    have hh : holeL (wth L G d L.length) = true := by
      refine hole_mem (wth_mem (d := d) hi hp) ?_
      by_cases e : devAt L i = d
      · rw [if_pos e]
        unfold Proofs.Ytpalgadokdcgnaa.agn
        exact mkB_hole (agn_mem hi hj hr.symm (fun e => hij e.symm)) hgj
      · rw [if_neg e]
        exact hgi
    unfold tryOf
    rw [hh]
    rfl
  have hall : ∀ d, tryOf d (wth L G d L.length) = none := by
    cases hp : parAt L i with
    | false => exact key i j hi hj hij hr hgi hgj hp
    | true =>
      cases hq : parAt L j with
      | false => exact key j i hj hi (fun e => hij e.symm) hr.symm hgj hgi hq
      | true =>
        exfalso
        have hone := h.one h1 hi
        unfold pcN at hone
        have m1 : i ∈ idx (fun x => parAt L x && rowAt L x == rowAt L i) L.length := idx_mem.2 ⟨hi, by simp [hp]⟩
        have m2 : j ∈ idx (fun x => parAt L x && rowAt L x == rowAt L i) L.length := idx_mem.2 ⟨hj, by simp [hq, hr]⟩
        match hm : idx (fun x => parAt L x && rowAt L x == rowAt L i) L.length, hone with
        | [x], _ =>
          rw [hm] at m1 m2
          exact hij ((List.mem_singleton.1 m1).trans (List.mem_singleton.1 m2).symm)
  unfold triesP
  rw [List.filterMap_eq_nil_iff]
  exact fun d _ => hall d
/-- How many columns are missing of those that are with column i. -/
def missTo (L : List C) (G : List ByteArray) (mir : Bool) (i k : Nat) : Nat := (idx (fun j => isHole G j && (if mir then devAt L j == devAt L i else rowAt L j == rowAt L i)) k).length
theorem miss_zero {mir : Bool} {G : List ByteArray} {i n : Nat} (h : missTo L G mir i n = 0) {j : Nat} (hj : j < n) (hs : (if mir then devAt L j == devAt L i else rowAt L j == rowAt L i) = true) : isHole G j = false := by
  cases hh : isHole G j with
  | false => rfl
  | true =>
    have : j ∈ idx (fun j => isHole G j && (if mir then devAt L j == devAt L i else rowAt L j == rowAt L i)) n := idx_mem.2 ⟨hj, by rw [hh, hs]; rfl⟩
    rw [List.eq_nil_of_length_eq_zero h] at this
    cases this
theorem miss_none {mir : Bool} {G : List ByteArray} {i n : Nat} (h : ∀ j, j < n → (if mir then devAt L j == devAt L i else rowAt L j == rowAt L i) = true → isHole G j = false) : missTo L G mir i n = 0 := by
  unfold missTo
  rw [List.length_eq_zero_iff]
  unfold idx
  rw [List.filter_eq_nil_iff]
  intro j hj hc
  rw [Bool.and_eq_true] at hc
  rw [h j (List.mem_range.1 hj) hc.2] at hc
  exact absurd hc.1 (by decide)
theorem miss_two {mir : Bool} {G : List ByteArray} {i n : Nat} (h : 2 ≤ missTo L G mir i n) : ∃ a b, a < n ∧ b < n ∧ a ≠ b ∧ isHole G a = true ∧ isHole G b = true ∧ (if mir then devAt L a == devAt L i else rowAt L a == rowAt L i) = true ∧ (if mir then devAt L b == devAt L i else rowAt L b == rowAt L i) = true := by
  have hs : (idx (fun j => isHole G j && (if mir then devAt L j == devAt L i else rowAt L j == rowAt L i)) n).Pairwise (· < ·) := List.Pairwise.filter _ (List.pairwise_lt_range)
  unfold missTo at h
  match hm : idx (fun j => isHole G j && (if mir then devAt L j == devAt L i else rowAt L j == rowAt L i)) n, h with
  | a :: b :: r, _ =>
    rw [hm] at hs
    have hab : a < b := (List.pairwise_cons.1 hs).1 b (by simp)
    have h1 := idx_mem.1 (show a ∈ idx _ n by rw [hm]; simp)
    have h2 := idx_mem.1 (show b ∈ idx _ n by rw [hm]; simp)
    rw [Bool.and_eq_true] at h1 h2
    exact ⟨a, b, h1.1, h2.1, by omega, h1.2.1, h2.2.1, h1.2.2, h2.2.2⟩
theorem Enc7.lessM (h : Enc7 l sc k t z s kk u L f) (h0 : kk = 0) {G : List ByteArray} (hS : Mis L f G) : (∀ y ∈ triesOf l sc k t z G, y.2 = s) ∧ (0 < (triesOf l sc k t z G).length ↔ ∃ a, a < L.length ∧ missTo L G true a L.length = 0) := by
  rw [h.tries hS.len (hS.sizes h), if_pos h0]
  obtain ⟨_, hl, hu1, _⟩ := h.mir h0
  have hz := h.blk.z1
  have full : ∀ d, d < u → holeL (chunk G z d) = false → tryOf (devAt L (d * z)) (chunk G z d) = some (aheadL l k + (d : Int), s) := by
    intro d hd hno
    have hb : d * z + z ≤ u * z := by rw [← Nat.succ_mul]; exact Nat.mul_le_mul_right _ hd
    refine h.tryM h0 hS.len hd fun i hi => hS.there (by rw [hl]; omega) (no_hole hno ?_)
    rw [chunk_map (by rw [hS.len, hl]) hd]
    exact List.mem_map.2 ⟨i, List.mem_range.2 hi, rfl⟩
  refine ⟨fun y hy => ?_, ?_⟩
  · unfold triesM at hy
    obtain ⟨d, hd, hy⟩ := List.mem_filterMap.1 hy
    have hd := List.mem_range.1 hd
    have hno : holeL (chunk G z d) = false := by
      unfold tryOf at hy
      cases hh : holeL (chunk G z d) with
      | false => rfl
      | true => rw [hh] at hy; cases hy
    rw [full d hd hno] at hy
    cases hy
    rfl
  · rw [List.length_pos_iff_exists_mem]
    constructor
    · rintro ⟨y, hy⟩
      unfold triesM at hy
      obtain ⟨d, hd, hy⟩ := List.mem_filterMap.1 hy
      have hd := List.mem_range.1 hd
      have hno : holeL (chunk G z d) = false := by
        unfold tryOf at hy
        cases hh : holeL (chunk G z d) with
        | false => rfl
        | true => rw [hh] at hy; cases hy
      have hb : d * z + z ≤ u * z := by rw [← Nat.succ_mul]; exact Nat.mul_le_mul_right _ hd
      refine ⟨d * z, by rw [hl]; omega, miss_none fun j hj hsd => ?_⟩
      rw [if_pos rfl, beq_iff_eq, h.devM h0 hj, h.devM h0 (by rw [hl]; omega), Nat.mul_div_cancel _ hz] at hsd
      have hjd : j / z = d := by omega
      unfold isHole
      rw [beq_eq_false_iff_ne]
      refine no_hole hno ?_
      rw [chunk_map (by rw [hS.len, hl]) hd]
      refine List.mem_map.2 ⟨j % z, List.mem_range.2 (Nat.mod_lt _ hz), ?_⟩
      have := Nat.div_add_mod j z
      rw [hjd, Nat.mul_comm] at this
      rw [this]
    · rintro ⟨a, ha, hm⟩
      have hd : a / z < u := Nat.div_lt_of_lt_mul (by rw [Nat.mul_comm, ← hl]; exact ha)
      have hb : a / z * z + z ≤ u * z := by rw [← Nat.succ_mul]; exact Nat.mul_le_mul_right _ hd
      have hno : holeL (chunk G z (a / z)) = false := by
        unfold holeL
        rw [List.any_eq_false]
        intro x hx
        rw [chunk_map (by rw [hS.len, hl]) hd] at hx
        obtain ⟨i, hi, rfl⟩ := List.mem_map.1 hx
        have hi := List.mem_range.1 hi
        have hj : a / z * z + i < L.length := by rw [hl]; omega
        have := miss_zero hm hj (by
          rw [if_pos rfl, beq_iff_eq, h.devM h0 hj, h.devM h0 ha]
          have : (a / z * z + i) / z = a / z := by rw [Nat.add_comm, Nat.add_mul_div_right _ _ hz, Nat.div_eq_of_lt hi, Nat.zero_add]
          rw [this])
        unfold isHole at this
        simpa using this
      refine ⟨(aheadL l k + ((a / z : Nat) : Int), s), ?_⟩
      unfold triesM
      exact List.mem_filterMap.2 ⟨a / z, List.mem_range.2 hd, full _ hd hno⟩
end
end Go.Proofs.Ytpalgadokdcgnaa
