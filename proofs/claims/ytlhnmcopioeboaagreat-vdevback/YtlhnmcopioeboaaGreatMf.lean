/-
  Columns as they are encoded: what they come to (no program is named here).
  vdev.Write of any block; vdev.Mend.
  vdev.Raw: what a block's columns read as.
  settle.
  Flush.
  Flush: the walk.
  vdev.Flush.
  Cached.
  Crash.
  Spoil, Fresh, New.
  Fresh, New.
  New.
  vdev.New: the groups are cloned; a pool grows device by device.
  vdev.New: the walk.
-/
import Derived.Test.YtlhnmcopioeboaaGreatMe
import Derived.StillTailTactics
import Derived.Sort.OwnSorted
import Derived.Sort.OwnSortedInts
import Derived.Shelf.Slices.In.SortNone
import Derived.Laws.BitsAllLaws
import Derived.Laws.MakeOwn

/- Columns as they are encoded: what they come to (no program is named here). -/
namespace Go.Proofs.YtlhnmcopioeboaaGreat
set_option maxRecDepth 100000
open Go.RowKit M

/-- What the laws ask of a block's columns. -/
structure Sound (L : List C) : Prop where
  data : ∀ a, a < L.length → parAt L a = true → idx (fun j => !parAt L j && rowAt L j == rowAt L a) L.length ≠ []
def soundB (M : List (Int × Bool)) : Bool := M.all fun x => !x.2 || M.any fun y => !y.2 && y.1 == x.1
theorem sound_of {L : List C} (h : soundB (L.map rp) = true) : Sound L := ⟨fun a ha hp he => by
  unfold soundB at h
  rw [List.all_eq_true] at h
  have h1 := h (rp L[a]) (List.mem_map_of_mem (List.getElem_mem ha))
  rw [parAt_eq ha] at hp
  simp only [rp, hp, Bool.not_true, Bool.false_or, List.any_map, List.any_eq_true] at h1
  obtain ⟨x, hx, hx2⟩ := h1
  obtain ⟨j, hj, rfl⟩ := List.getElem_of_mem hx
  have : j ∈ idx (fun j => !parAt L j && rowAt L j == rowAt L a) L.length := idx_mem.2 ⟨hj, by rw [parAt_eq hj, rowAt_eq hj, rowAt_eq ha]; exact hx2⟩
  rw [he] at this
  cases this⟩
theorem par_sound : ∀ u : Nat, u < 9 → 3 ≤ u → ∀ z : Nat, z < 5 → 1 ≤ z → soundB ((parTo 0 0 u z).map rp) = true := by decide
theorem Blk.sound {l : List (Int × Int)} {s : Int} {k t z : Nat} (h : Blk l s k t z) : Sound (colsOf l k t z) := by
  obtain ⟨kk, u, hK⟩ := h.kinded
  rcases hK.ok with ⟨_, _, _, e, _⟩ | ⟨_, h3, h8, e, _⟩
  · rw [e]
    refine ⟨fun a ha hp => ?_⟩
    rw [parAt_eq ha, mirL_get _ _ _ h.z1] at hp
    cases hp
  · rw [e]
    exact sound_of (by rw [parTo_shape]; exact par_sound u (by omega) h3 z (by have := h.z4; omega) h.z1)

section
variable {L : List C} {f : Nat → ByteArray}
theorem rowD_sz (hf : ∀ i, (f i).size = 64) {r : Int} {k : Nat} : ∀ s ∈ rowD L f r k, s.size = 64 := by
  intro s hs
  obtain ⟨j, _, rfl⟩ := List.mem_map.1 hs
  exact hf _
theorem enc_size (hS : Sound L) (hf : ∀ i, (f i).size = 64) (a : Nat) (ha : a < L.length) : (encAt L f a).size = 64 := by
  unfold encAt
  cases hp : parAt L a with
  | true =>
    have hne : rowD L f (rowAt L a) L.length ≠ [] := by
      unfold rowD
      intro e
      exact hS.data a ha hp (List.map_eq_nil_iff.1 e)
    rw [if_pos rfl, (mk_ok (ok_of (rowD_sz hf) hne)).1, parB_size, wide_of (rowD_sz hf) hne]
  | false => rw [if_neg (by simp)]; exact hf _
theorem encL_size (hS : Sound L) (hf : ∀ i, (f i).size = 64) : ∀ s ∈ encL L f, s.size = 64 := by
  intro s hs
  obtain ⟨a, ha, rfl⟩ := List.mem_map.1 hs
  exact enc_size hS hf a (List.mem_range.1 ha)

/-- The data columns' texts, in their order, are the sectors. -/
theorem data_map (g : Nat → ByteArray) : ∀ k, k ≤ L.length → (idx (fun j => !parAt L j) k).map (fun j => g (dct L j)) = (List.range (dct L k)).map g := by
  intro k
  induction k with
  | zero => intro _; simp [idx, dct]
  | succ k ih =>
    intro hk
    have hd := dct_succ (L := L) (k := k) (by omega)
    rw [← parAt_eq (by omega : k < L.length)] at hd
    cases hp : parAt L k with
    | true =>
      rw [hp] at hd
      rw [idx_no (by simp [hp]), ih (by omega), hd]
      rfl
    | false =>
      rw [hp] at hd
      rw [idx_yes (by simp [hp]), List.map_append, ih (by omega), hd]
      simp [List.range_succ]

/-- How many parities a row has among the first k. -/
def pcN (L : List C) (r : Int) (k : Nat) : Nat := (idx (fun j => parAt L j && rowAt L j == r) k).length
theorem row_col (r : Int) (i : Nat) : ∀ k, k ≤ L.length → colx (rowG L (encL L f) r k) i = colx (rowD L f r k) i ^^^ (if pcN L r k % 2 = 1 then (mkB (rowD L f r L.length)).data.toList.getD i 0 else 0) := by
  intro k
  induction k with
  | zero => intro _; simp [rowG, rowD, idx, pcN, colx]
  | succ k ih =>
    intro hk
    have ih := ih (by omega)
    by_cases hr : rowAt L k = r
    · rw [rowG_yes hr, colx_append, colx_one, ih, encL_getD L f k (by omega)]
      cases hp : parAt L k with
      | true =>
        have hpc : pcN L r (k + 1) = pcN L r k + 1 := by unfold pcN; rw [idx_yes (by simp [hp, hr]), List.length_append]; rfl
        rw [rowD_no (.inl hp), hpc]
        have he : encAt L f k = mkB (rowD L f r L.length) := by unfold encAt; rw [hp, if_pos rfl, hr]
        rw [he, UInt8.xor_assoc]
        congr 1
        rcases Nat.mod_two_eq_zero_or_one (pcN L r k) with h | h
        · rw [if_neg (by omega), if_pos (by omega), UInt8.zero_xor]
        · rw [if_pos h, if_neg (by omega), UInt8.xor_self]
      | false =>
        have hpc : pcN L r (k + 1) = pcN L r k := by unfold pcN; rw [idx_no (by simp [hp])]
        rw [rowD_yes hp hr, colx_append, colx_one, hpc]
        have he : encAt L f k = f (dct L k) := by unfold encAt; rw [hp]; rfl
        rw [he, UInt8.xor_assoc, UInt8.xor_assoc]
        congr 1
        exact UInt8.xor_comm _ _
    · have hpc : pcN L r (k + 1) = pcN L r k := by unfold pcN; rw [idx_no (by simp [hr])]
      rw [rowG_no hr, rowD_no (.inr hr), hpc]
      exact ih
theorem row_zero (hf : ∀ i, (f i).size = 64) {r : Int} (h1 : pcN L r L.length = 1) (hne : rowD L f r L.length ≠ []) {i : Nat} (hi : i < 64) : colx (rowG L (encL L f) r L.length) i = 0 := by
  rw [row_col r i L.length (Nat.le_refl _), h1, if_pos rfl, (mk_ok (ok_of (rowD_sz hf) hne)).1, parB_at _ _ (by rw [wide_of (rowD_sz hf) hne]; exact hi), UInt8.xor_self]
/-- A column is made again by the others of its row, where these are as they are encoded. -/
theorem agn_eq (hS : Sound L) (hf : ∀ i, (f i).size = 64) {G : List ByteArray} {a : Nat} (ha : a < L.length) (h2 : 2 ≤ (idx (fun j => rowAt L j == rowAt L a) L.length).length) (h1 : pcN L (rowAt L a) L.length = 1) (hne : rowD L f (rowAt L a) L.length ≠ [])
    (hG : ∀ j, j < L.length → rowAt L j = rowAt L a → j ≠ a → G.getD j ⟨#[]⟩ = encAt L f j) : agn L G a = encAt L f a := by
  obtain ⟨r, hr, hm⟩ := idx_split (q := fun j => rowAt L j == rowAt L a) (a := a) (by simp) L.length ha
  have hO : (rowG L G (rowAt L a) L.length).eraseIdx (rowG L G (rowAt L a) a).length = (idx (fun j => rowAt L j == rowAt L a) a ++ r).map (encAt L f) := by
    unfold rowG
    rw [hr, List.length_map, List.map_append, List.map_cons, List.eraseIdx_append_of_length_le (by simp), List.length_map, Nat.sub_self, List.eraseIdx_zero, List.tail_cons, ← List.map_append]
    apply List.map_congr_left
    intro j hj
    rcases List.mem_append.1 hj with h | h
    · obtain ⟨h3, h4⟩ := idx_mem.1 h
      exact hG j (by omega) (by simpa using h4) (by omega)
    · obtain ⟨h3, h4, h5⟩ := hm j h
      exact hG j h4 (by simpa using h5) (by omega)
  have hsz : ∀ s ∈ (idx (fun j => rowAt L j == rowAt L a) a ++ r).map (encAt L f), s.size = 64 := by
    intro s hs
    obtain ⟨j, hj, rfl⟩ := List.mem_map.1 hs
    rcases List.mem_append.1 hj with h | h
    · exact enc_size hS hf j (Nat.lt_trans (idx_mem.1 h).1 ha)
    · exact enc_size hS hf j (hm j h).2.1
  have hn : (idx (fun j => rowAt L j == rowAt L a) a ++ r).map (encAt L f) ≠ [] := by
    intro e
    have e' := List.map_eq_nil_iff.1 e
    obtain ⟨e1, e2⟩ := List.append_eq_nil_iff.1 e'
    rw [hr, e1, e2] at h2
    simp at h2
  unfold agn
  rw [hO, (mk_ok (ok_of hsz hn)).1]
  refine parB_eq (by rw [wide_of hsz hn, enc_size hS hf a ha]) fun i hi => ?_
  rw [wide_of hsz hn] at hi
  have hz := row_zero hf h1 hne hi
  have hrow : rowG L (encL L f) (rowAt L a) L.length = (idx (fun j => rowAt L j == rowAt L a) a).map (encAt L f) ++ (encAt L f a :: r.map (encAt L f)) := by
    unfold rowG
    rw [hr, List.map_append, List.map_cons, encL_getD L f a ha]
    congr 1
    · apply List.map_congr_left
      intro j hj
      exact encL_getD L f j (Nat.lt_trans (idx_mem.1 hj).1 ha)
    · congr 1
      apply List.map_congr_left
      intro j hj
      exact encL_getD L f j (hm j hj).2.1
  rw [hrow, colx_append, colx_cons] at hz
  rw [List.map_append, colx_append]
  generalize colx ((idx (fun j => rowAt L j == rowAt L a) a).map (encAt L f)) i = x at hz ⊢
  generalize colx (r.map (encAt L f)) i = y at hz ⊢
  generalize (encAt L f a).data.toList.getD i 0 = e at hz ⊢
  have : x ^^^ y ^^^ e = 0 := by rw [← hz, UInt8.xor_assoc, UInt8.xor_comm y e]
  rwa [UInt8.xor_eq_zero_iff] at this
end

/-- The data as it was read, a device's made again, are the sectors. -/
theorem wth_eq {L : List C} {f : Nat → ByteArray} {G : List ByteArray} {d : Int}
    (h : ∀ j, j < L.length → parAt L j = false → (if devAt L j = d then agn L G j else G.getD j ⟨#[]⟩) = encAt L f j) : wth L G d L.length = (List.range (dct L L.length)).map f := by
  rw [← data_map f L.length (Nat.le_refl _)]
  unfold wth
  apply List.map_congr_left
  intro j hj
  obtain ⟨h1, h2⟩ := idx_mem.1 hj
  have h3 : parAt L j = false := by simpa using h2
  rw [h j h1 h3]
  unfold encAt
  rw [h3]
  rfl

/-- A block, its text, and its columns' texts. -/
structure Enc7 (l : List (Int × Int)) (sc : Int) (k t z : Nat) (s : ByteArray) (kk : Int) (u : Nat) (L : List C) (f : Nat → ByteArray) : Prop where
  blk : Blk l sc k t z
  hL : colsOf l k t z = L
  kind : Kinded l k t z kk u L
  hs : s.size = z * 64
  hf : ∀ i, (f i).size = 64
  sec : ∀ i, i < z → f i = sect s i
  mod : ∀ d i, i < z → f (d * z + i) = sect s i
  enc : encOf l k t z s = encL L f
  sound : Sound L
  rows : ∃ R, Rowed kk u z L R
theorem Blk.enc7 {l : List (Int × Int)} {sc : Int} {k t z : Nat} (h : Blk l sc k t z) {s : ByteArray} (hs : s.size = z * 64) : ∃ kk u, Enc7 l sc k t z s kk u (colsOf l k t z) fun i => sect s (i % z) := by
  obtain ⟨kk, u, hK⟩ := h.kinded
  have hk := h.hk
  have hlk : l[k] = (kk, (u : Int)) := by rw [← getD_at hk]; exact hK.grp
  exact ⟨kk, u, h, rfl, hK, hs, fun i => sect_size hs (Nat.mod_lt _ h.z1), fun i hi => by show sect s (i % z) = _; rw [Nat.mod_eq_of_lt hi],
    fun d i hi => by show sect s ((d * z + i) % z) = _; rw [Nat.add_comm, Nat.add_mul_mod_self_right, Nat.mod_eq_of_lt hi], rfl, h.sound, h.rowed hlk⟩
section
variable {l : List (Int × Int)} {sc : Int} {k t z : Nat} {s : ByteArray} {kk : Int} {u : Nat} {L : List C} {f : Nat → ByteArray}
theorem Enc7.fits (h : Enc7 l sc k t z s kk u L f) {G : List ByteArray} (hl : G.length = L.length) (hG : ∀ x ∈ G, x.size = 0 ∨ x.size = 64) : fitsL l sc k t z G = true := by
  unfold fitsL
  rw [mayL_iff.2 ⟨k, t, z, rfl, rfl, rfl, h.blk⟩]
  have e : colsI l k t z = L := h.hL
  rw [e, Bool.true_and, Bool.and_eq_true, decide_eq_true_iff]
  refine ⟨hl.symm, ?_⟩
  unfold fitL
  rw [List.all_eq_true]
  intro x hx
  unfold secT
  rw [Bool.or_eq_true, beq_iff_eq, beq_iff_eq]
  exact hG x hx
theorem Enc7.few (h : Enc7 l sc k t z s kk u L f) : 0 < L.length ∧ L.length ≤ 32 := by rw [← h.hL]; exact ⟨h.blk.laid.pos, h.blk.laid.few⟩
theorem Enc7.tries (h : Enc7 l sc k t z s kk u L f) {G : List ByteArray} (hl : G.length = L.length) (hG : ∀ x ∈ G, x.size = 0 ∨ x.size = 64) : triesOf l sc k t z G = if kk = 0 then triesM L G u z else triesP L G (-1 :: devsS ((datL L).map C.dev)) := by
  unfold triesOf
  rw [h.fits hl hG, if_pos rfl]
  show triesB l k t z G = _
  unfold triesB
  rw [h.kind.grp, h.hL]
  rfl
/-- All sectors, one behind the other. -/
theorem Enc7.joined (h : Enc7 l sc k t z s kk u L f) : joinB ((List.range z).map f) = s := by
  rw [List.map_congr_left (g := sect s) fun i hi => h.sec i (List.mem_range.1 hi)]
  exact join_sect h.hs
theorem Enc7.full (h : Enc7 l sc k t z s kk u L f) (g : Nat → ByteArray) (hg : ∀ i, i < z → g i = f i) : holeL ((List.range z).map g) = false := by
  unfold holeL
  rw [List.any_eq_false]
  intro x hx
  obtain ⟨i, hi, rfl⟩ := List.mem_map.1 hx
  rw [hg i (List.mem_range.1 hi), h.hf]
  decide
theorem Enc7.dataN (h : Enc7 l sc k t z s kk u L f) (h1 : kk = 1) : dct L L.length = z := by
  obtain ⟨R, hR⟩ := h.rows
  rw [dct_all, hR.datas, if_neg (by rw [h1]; decide)]
theorem count_congr {α : Type} {p q : α → Bool} (l : List α) (h : ∀ x ∈ l, p x = q x) : l.countP p = l.countP q := List.countP_congr fun x hx => by rw [h x hx]
theorem Enc7.one (h : Enc7 l sc k t z s kk u L f) (h1 : kk = 1) {a : Nat} (ha : a < L.length) : pcN L (rowAt L a) L.length = 1 := by
  obtain ⟨R, hR⟩ := h.rows
  obtain ⟨r0, r1⟩ := hR.in_ a ha
  obtain ⟨r, hr⟩ := Int.eq_ofNat_of_zero_le r0
  have hp := hR.pars r (by omega)
  rw [h1] at hp
  unfold pcN
  rw [rowAt_eq ha, idx_count (p := fun x : C => x.par && x.row == L[a].row) L (fun j hj => by rw [parAt_eq hj, rowAt_eq hj]) L.length (Nat.le_refl _), List.take_length]
  have : L.countP (fun x => x.par && x.row == L[a].row) = L.countP (fun x => decide (x.row = (r : Int)) && x.par) := count_congr L fun x _ => by
    rw [hr, Bool.and_comm]; congr 1
  omega
theorem Enc7.rowNe (h : Enc7 l sc k t z s kk u L f) (_ : kk = 1) {a : Nat} (ha : a < L.length) : rowD L f (rowAt L a) L.length ≠ [] := by
  intro e
  have e' := List.map_eq_nil_iff.1 e
  cases hp : parAt L a with
  | true => exact h.sound.data a ha hp e'
  | false =>
    have : a ∈ idx (fun j => !parAt L j && rowAt L j == rowAt L a) L.length := idx_mem.2 ⟨ha, by simp [hp]⟩
    rw [e'] at this
    cases this
theorem Enc7.pair (h : Enc7 l sc k t z s kk u L f) (h1 : kk = 1) : Paired L := by
  rcases h.kind.ok with h2 | h2
  · exact absurd (h1.symm.trans h2.1) (by decide)
  · exact h2.2.2.2.2
/-- A data column made again. -/
theorem Enc7.agn (h : Enc7 l sc k t z s kk u L f) (h1 : kk = 1) {G : List ByteArray} {a : Nat} (ha : a < L.length) (hp : parAt L a = false) (hG : ∀ j, j < L.length → rowAt L j = rowAt L a → j ≠ a → G.getD j ⟨#[]⟩ = encAt L f j) : agn L G a = encAt L f a :=
  agn_eq h.sound h.hf ha (h.pair h1 a ha hp) (h.one h1 ha) (h.rowNe h1 ha) hG
theorem Enc7.tryP (h : Enc7 l sc k t z s kk u L f) (h1 : kk = 1) {G : List ByteArray} {d : Int}
    (hw : ∀ j, j < L.length → parAt L j = false → (if devAt L j = d then Proofs.YtlhnmcopioeboaaGreat.agn L G j else G.getD j ⟨#[]⟩) = encAt L f j) : tryOf d (wth L G d L.length) = some (d, s) := by
  unfold tryOf
  rw [wth_eq hw, h.dataN h1, h.full f fun _ _ => rfl, h.joined]
  rfl
/-- A Mirror's columns. -/
theorem Enc7.mir (h : Enc7 l sc k t z s kk u L f) (h0 : kk = 0) : L = mirL (aheadL l k) t u z ∧ L.length = u * z ∧ 1 ≤ u ∧ u ≤ 8 := by
  rcases h.kind.ok with h2 | h2
  · exact ⟨h2.2.2.2.1, h2.2.2.2.2, h2.2.1, h2.2.2.1⟩
  · exact absurd (h0.symm.trans h2.1) (by decide)
theorem Enc7.noPar (h : Enc7 l sc k t z s kk u L f) (h0 : kk = 0) {j : Nat} (hj : j < L.length) : parAt L j = false := by
  rw [parAt_eq hj]
  obtain ⟨e, _⟩ := h.mir h0
  subst e
  rw [mirL_get _ _ _ h.blk.z1]
theorem Enc7.dctM (h : Enc7 l sc k t z s kk u L f) (h0 : kk = 0) : ∀ j, j ≤ L.length → dct L j = j := by
  intro j
  induction j with
  | zero => intro _; simp [dct]
  | succ j ih =>
    intro hj
    rw [dct_succ hj, ← parAt_eq hj, h.noPar h0 hj, ih (by omega)]
    rfl
theorem Enc7.encM (h : Enc7 l sc k t z s kk u L f) (h0 : kk = 0) {j : Nat} (hj : j < L.length) : encAt L f j = f j := by
  unfold encAt
  rw [h.noPar h0 hj, h.dctM h0 j (Nat.le_of_lt hj)]
  rfl
theorem Enc7.devM (h : Enc7 l sc k t z s kk u L f) (h0 : kk = 0) {j : Nat} (hj : j < L.length) : devAt L j = aheadL l k + (j / z : Nat) := by
  rw [devAt_eq hj]
  obtain ⟨e, _⟩ := h.mir h0
  subst e
  rw [mirL_get _ _ _ h.blk.z1]
theorem chunk_map {G : List ByteArray} {u z d : Nat} (hG : G.length = u * z) (hd : d < u) : chunk G z d = (List.range z).map fun i => G.getD (d * z + i) ⟨#[]⟩ := by
  have hl := chunk_len hG hd
  have hb : d * z + z ≤ u * z := by rw [← Nat.succ_mul]; exact Nat.mul_le_mul_right _ hd
  apply List.ext_getElem
  · rw [hl]; simp
  · intro i h1 h2
    have h3 : i < z := by rw [← hl]; exact h1
    have hi : d * z + i < G.length := by rw [hG]; omega
    have e : (chunk G z d)[i]? = some G[d * z + i] := by
      unfold chunk
      rw [List.getElem?_take, if_pos h3, List.getElem?_drop, List.getElem?_eq_getElem hi]
    rw [List.getElem?_eq_getElem h1] at e
    rw [Option.some.inj e, List.getElem_map, List.getElem_range, List.getD_eq_getElem?_getD, List.getElem?_eq_getElem hi]
    rfl
/-- A device of a Mirror that has all of the block. -/
theorem Enc7.tryM (h : Enc7 l sc k t z s kk u L f) (h0 : kk = 0) {G : List ByteArray} (hG : G.length = L.length) {d : Nat} (hd : d < u) (hw : ∀ i, i < z → G.getD (d * z + i) ⟨#[]⟩ = encAt L f (d * z + i)) : tryOf (devAt L (d * z)) (chunk G z d) = some (aheadL l k + (d : Int), s) := by
  obtain ⟨_, hl, _⟩ := h.mir h0
  have hb : d * z + z ≤ u * z := by rw [← Nat.succ_mul]; exact Nat.mul_le_mul_right _ hd
  have hz := h.blk.z1
  have e : chunk G z d = (List.range z).map f := by
    rw [chunk_map (by rw [hG, hl]) hd]
    apply List.map_congr_left
    intro i hi
    have hi := List.mem_range.1 hi
    rw [hw i hi, h.encM h0 (by rw [hl]; omega), h.mod d i hi, h.sec i hi]
  unfold tryOf
  rw [e, h.full f fun _ _ => rfl, h.joined, h.devM h0 (by rw [hl]; omega), Nat.mul_div_cancel _ hz]
  rfl
end
end Go.Proofs.YtlhnmcopioeboaaGreat

/- vdev.Write of any block; vdev.Mend. -/
namespace Go.Proofs.YtlhnmcopioeboaaGreat
set_option maxRecDepth 100000
open Go.RowKit Go.Maps M

theorem Blk.puts {l : List (Int × Int)} {sc : Int} {k t z : Nat} (h : Blk l sc k t z) {s : ByteArray} (hs : s.size = z * 64) {n : Nat} (hn : devsL l sc = (n : Int)) : Puts n sc (colsOf l k t z) (encOf l k t z s) := by
  obtain ⟨kk, u, hE⟩ := h.enc7 hs
  have hl := h.laid
  refine ⟨encOf_len _ _ _ _ _, hl.pos, hl.few, fun j hj => ?_, fun j hj => ?_, fun j hj => ?_⟩
  · obtain ⟨h0, h1⟩ := h.dev j hj
    have e : devN (colsOf l k t z) j = (colsOf l k t z)[j].dev.toNat := by unfold devN; rw [List.getD_eq_getElem?_getD, List.getElem?_eq_getElem hj]; rfl
    rw [e]
    omega
  · have h0 := hl.at0 j hj
    have h1 := hl.at1 j hj
    have e : atN (colsOf l k t z) j = (colsOf l k t z)[j].at_.toNat := by unfold atN; rw [List.getD_eq_getElem?_getD, List.getElem?_eq_getElem hj]; rfl
    rw [e]
    omega
  · rw [List.getD_eq_getElem?_getD, List.getElem?_eq_getElem hj]
    have := encL_size hE.sound hE.hf
    rw [← hE.enc] at this
    exact this _ (List.getElem_mem hj)

/-- What Write answers of any block, and what becomes of the devices. -/
def Wrote (l : List (Int × Int)) (sc k t : Int) (s : ByteArray) (ds : Nat → Dv) (aw : Nat → Bool) (ds' : Nat → Dv) (n : Nat) (er : Int) : Prop :=
  (mayT l sc k t s.size = false ∧ ds' = ds ∧ n = 0 ∧ er = 1) ∨
  ∃ k' t' z' : Nat, k = k' ∧ t = t' ∧ s.size = z' * 64 ∧ ∃ hB : Blk l sc k' t' z', ds' = wrTo ds aw (colsOf l k' t' z') (encOf l k' t' z' s) (colsOf l k' t' z').length ∧ n = failN ds aw (colsOf l k' t' z') ∧ er = errN (l[k']'hB.hk) n

section
variable {B : Nat} {w : World} {x : Px} {l : List (Int × Int)} {ds : Nat → Dv} {aw : Nat → Bool} {K : Nat} {P : World → Prop}
set_option maxHeartbeats 2000000 in
theorem write8_bad (h : St B w x l ds aw K P) (k t : Int) (hk : I64 k) (ht : I64 t) (s : ByteArray) (hs : s.size ≤ 1000) (hno : mayT l x.sc k t s.size = false) :
    Calls Tryz.prog 6 #[x.val, .agg #[.int .i64 k, .int .i64 t], .string s] w fun e w' =>
      e = .returned (.tuple #[.int .i64 0, .int .i64 1]) ∧ Below w.heap.size w w' := by
  obtain ⟨wa, w2, ea, e2, z2, H2, b2⟩ := boxes8 h k t 31 26
  have HA := Lib.hid ea
  have HE2 := Lib.hid e2
  have HB2 := Lib.hid b2
  have HE := Lib.hid (encoded_any H2 k t hk ht s hs)
  have HNO := Lib.hid hno
  obtain ⟨_, ⟨x0, x1, x2, x3⟩, y0, y1⟩ := H2.out
  unfold Px.val at HE ⊢
  clear h H2 ea e2 b2 hno hk ht
  go_enter Tryz.func6, Tryz.ntmps6
  go_wp2_with (first | (rw [HA.out, HE2.out]; fail))
  rw [HA.out, HE2.out]
  go_wp2_with fail
  refine HE.out.mono ?_
  rintro e w3 ⟨v1, v2, er, rfl, he, b3⟩
  rcases he with ⟨_, rfl, rfl, rfl⟩ | ⟨k', t', z', rfl, rfl, es, hB', rfl, hN⟩
  · go_wp2
    go_ret2
    exact ⟨rfl, next HB2.out b3⟩
  · exfalso
    have := mayT_iff.2 ⟨k', t', z', rfl, rfl, es, hB'⟩
    rw [HNO.out] at this
    cases this
theorem write8_any (h : St B w x l ds aw K P) (k t : Int) (hk : I64 k) (ht : I64 t) (s : ByteArray) (hs : s.size ≤ 1000) (hK : K < 4000000000) :
    Calls Tryz.prog 6 #[x.val, .agg #[.int .i64 k, .int .i64 t], .string s] w fun e w' =>
      ∃ n er ds', e = .returned (.tuple #[.int .i64 (n : Nat), .int .i64 er]) ∧ Wrote l x.sc k t s ds aw ds' n er ∧ St B w' x l ds' aw (K + 32) P ∧ Below B w w' := by
  cases hm : mayT l x.sc k t s.size with
  | false => exact (write8_bad h k t hk ht s hs hm).mono fun e w' ⟨h1, h2⟩ => ⟨0, 1, ds, h1, .inl ⟨hm, rfl, rfl, rfl⟩, (h.below h2).more (by omega), h2.mono h.lt.2⟩
  | true =>
    obtain ⟨k', t', z', rfl, rfl, h3, hB⟩ := mayT_iff.1 hm
    exact (write8_ok h k' t' z' hB s hs h3 (hB.puts h3 h.right.2) hK).mono fun e w' ⟨h1, h2, h4⟩ => ⟨_, _, _, h1, .inr ⟨k', t', z', rfl, rfl, h3, hB, rfl, rfl, rfl⟩, h2, h4⟩

/-- Which of a list's places there are. -/
def okAt (m : Nat) (k : Int) : Bool := decide (0 ≤ k) && decide (k < m)
/-- The devices behind the mending of j places, and how many were taken. -/
def meTo (ds : Nat → Dv) (aw : Nat → Bool) (L : List C) (E : List ByteArray) (q : Nat → Int) : Nat → Nat → Dv
  | 0 => ds
  | j + 1 => if okAt L.length (q j) then putD (meTo ds aw L E q j) aw (devN L (q j).toNat) (atN L (q j).toNat) (E.getD (q j).toNat ⟨#[]⟩) else meTo ds aw L E q j
def meN (hr : Nat → Bool) (L : List C) (q : Nat → Int) : Nat → Nat
  | 0 => 0
  | j + 1 => if okAt L.length (q j) && hr (devN L (q j).toNat) then meN hr L q j + 1 else meN hr L q j
theorem meTo_here (ds : Nat → Dv) (aw : Nat → Bool) (L : List C) (E : List ByteArray) (q : Nat → Int) (j : Nat) : hereB (meTo ds aw L E q j) aw = hereB ds aw := by
  induction j with
  | zero => rfl
  | succ j ih =>
    rw [meTo]
    split
    · rw [hereB_put, ih]
    · exact ih
theorem meN_le (hr : Nat → Bool) (L : List C) (q : Nat → Int) (j : Nat) : meN hr L q j ≤ j := by
  induction j with
  | zero => exact Nat.le_refl _
  | succ j ih =>
    rw [meN]
    split <;> omega
end
end Go.Proofs.YtlhnmcopioeboaaGreat

/- vdev.Raw: what a block's columns read as. -/
namespace Go.Proofs.YtlhnmcopioeboaaGreat
set_option maxRecDepth 100000
open Go.RowKit Go.Maps M

/-- What a column reads as. -/
def rawAt (ds : Nat → Dv) (aw : Nat → Bool) (L : List C) (j : Nat) : ByteArray := if hereB ds aw (devN L j) then strOf ((ds (devN L j)).now (atN L j)) else ⟨#[]⟩
def rawTo (ds : Nat → Dv) (aw : Nat → Bool) (L : List C) (m j : Nat) : List ByteArray := (List.range m).map fun i => if i < j then rawAt ds aw L i else ⟨#[]⟩
def rawL (ds : Nat → Dv) (aw : Nat → Bool) (L : List C) : List ByteArray := (List.range L.length).map (rawAt ds aw L)
theorem rawTo_zero (ds : Nat → Dv) (aw : Nat → Bool) (L : List C) (m : Nat) : rawTo ds aw L m 0 = List.replicate m ⟨#[]⟩ := by
  unfold rawTo
  simp only [Nat.not_lt_zero, if_false]
  rw [List.map_const', List.length_range]
theorem rawTo_all (ds : Nat → Dv) (aw : Nat → Bool) (L : List C) (m : Nat) (hm : L.length = m) : rawTo ds aw L m m = rawL ds aw L := by
  unfold rawTo rawL
  rw [hm]
  apply List.map_congr_left
  intro i hi
  rw [if_pos (List.mem_range.1 hi)]
theorem rawTo_set (ds : Nat → Dv) (aw : Nat → Bool) (L : List C) (m j : Nat) (hj : j < m) : (rawTo ds aw L m j).set j (rawAt ds aw L j) = rawTo ds aw L m (j + 1) := by
  unfold rawTo
  apply List.ext_getElem?
  intro i
  by_cases hi : i < m
  · by_cases e : j = i
    · subst e
      rw [List.getElem?_set_self (by simpa using hj), List.getElem?_map, List.getElem?_range hj]
      simp
    · rw [List.getElem?_set_ne e, List.getElem?_map, List.getElem?_map, List.getElem?_range hi]
      simp only [Option.map_some]
      congr 1
      by_cases h : i < j
      · rw [if_pos h, if_pos (by omega)]
      · rw [if_neg h, if_neg (by omega)]
  · rw [List.getElem?_eq_none (by simp; omega), List.getElem?_eq_none (by simp; omega)]
theorem rawTo_skip (ds : Nat → Dv) (aw : Nat → Bool) (L : List C) (m j : Nat) (h : hereB ds aw (devN L j) = false) : rawTo ds aw L m j = rawTo ds aw L m (j + 1) := by
  unfold rawTo
  apply List.map_congr_left
  intro i _
  by_cases e : i = j
  · subst e
    rw [if_neg (by omega), if_pos (by omega), rawAt, h]
    rfl
  · by_cases h : i < j
    · rw [if_pos h, if_pos (by omega)]
    · rw [if_neg h, if_neg (by omega)]
theorem rawL_len (ds : Nat → Dv) (aw : Nat → Bool) (L : List C) : (rawL ds aw L).length = L.length := by simp [rawL]
theorem rawL_at (ds : Nat → Dv) (aw : Nat → Bool) (L : List C) (j : Nat) (hj : j < L.length) : (rawL ds aw L).getD j ⟨#[]⟩ = rawAt ds aw L j := by
  unfold rawL
  rw [List.getD_eq_getElem?_getD, List.getElem?_map, List.getElem?_range hj]
  rfl

theorem cell_store {w : World} {g j b o : Nat} {v u : Value} (h : w.cell? ⟨b, o, none⟩ = some u) (hb : b ≠ g) : (w.setCell ⟨g, j, none⟩ v).cell? ⟨b, o, none⟩ = some u := by
  rw [World.cell?_setCell_other _ _ _ _ (by intro e; cases e; exact hb rfl)]
  exact h
section
variable {X : Nat → Prop} {B : Nat} {w : World} {x : Px} {l : List (Int × Int)} {ds : Nat → Dv} {aw : Nat → Bool} {K : Nat} {P : World → Prop}
set_option maxHeartbeats 4000000 in
theorem raw_ok (h : StX X B w x l ds aw K P) (k t z : Nat) (hBl : Blk l x.sc k t z) :
    Calls Tryz.prog 8 #[x.val, .agg #[.int .i64 (k : Int), .int .i64 (t : Int)], .int .i64 (z : Int)] w fun e w' =>
      ∃ v, e = .returned (.tuple #[v, .int .i64 0]) ∧ Own w' w.heap.size v (rawL ds aw (colsOf l k t z)) ∧ Below w.heap.size w w' := by
  obtain ⟨_, h32⟩ := h.right.1.devs h.right.2
  have hz4 := hBl.z4
  have hPd : Hid (∀ j (h : j < (colsOf l k t z).length), ((colsOf l k t z)[j].dev = (devN (colsOf l k t z) j : Int) ∧ devN (colsOf l k t z) j < x.n) ∧ (colsOf l k t z)[j].at_ = (atN (colsOf l k t z) j : Int) ∧ (atN (colsOf l k t z) j : Int) < x.sc) := Lib.hid fun j hj => by
    have hp := hBl.puts (s := ⟨(List.replicate (z * 64) (0 : UInt8)).toArray⟩) (by simp [ByteArray.size]) h.right.2
    exact ⟨hp.dev j hj, hp.at_ j hj⟩
  have hpos := hBl.laid.pos
  have hfew := hBl.laid.few
  obtain ⟨wa, w2, ea, e2, z2, H2, b2⟩ := boxes8 h k t 31 26
  have HA := Lib.hid ea
  have HE2 := Lib.hid e2
  have HB2 := Lib.hid b2
  have HR := Lib.hid (right8_any H2)
  have HST := Lib.hid H2
  have HBL := Lib.hid hBl
  obtain ⟨_, ⟨x0, x1, x2, x3⟩, y0, y1⟩ := H2.out
  unfold Px.val at HR ⊢
  generalize hL : colsOf l k t z = L at hPd hpos hfew ⊢
  have HL := Lib.hid hL
  clear h H2 ea e2 b2 hL hBl
  go_enter Tryz.func8, Tryz.ntmps8
  go_wp2_with (first | (rw [HA.out, HE2.out]; fail))
  rw [HA.out, HE2.out]
  go_wp2_with fail
  refine HR.out.mono ?_
  rintro e w3 ⟨rfl, b3⟩
  have HST3 := Lib.hid (HST.out.below b3)
  have HB3 := Lib.hid (next HB2.out b3)
  clear x0 x1 x2 x3 y0 y1 b3 HST HB2
  obtain ⟨_, ⟨x0, x1, x2, x3⟩, y0, y1⟩ := HST3.out.out
  have HC := Lib.hid (of_ok l x.sc x.g w3 HST3.out.meas k t z HBL.out)
  rw [HL.out] at HC
  unfold Px.g at HC
  go_wp2_with fail
  refine HC.out.mono ?_
  rintro e w4 ⟨v4, rfl, hO4, b4⟩
  have HST4 := Lib.hid (HST3.out.add b4 (New.cols hO4))
  have HB4 := Lib.hid (next HB3.out b4)
  obtain ⟨m, hm⟩ : ∃ m, L.length = m := ⟨_, rfl⟩
  obtain ⟨g1, c1, rfl, hgc1, hg1, _⟩ := hO4.some hpos
  rw [hm] at hpos hfew hgc1 ⊢
  clear x0 x1 x2 x3 y0 y1 HC hO4 HST3
  obtain ⟨w5, hmk, hO5, b5, z5⟩ := make_texts w4 w.heap.size m HB4.out.size (by omega)
  have HST5 := Lib.hid (HST4.out.below b5)
  have HB5 := Lib.hid (next HB4.out b5)
  have HO5 := Lib.hid hO5
  have HM := Lib.hid hm
  have HG : Hid (w.heap.size ≤ w4.heap.size) := Lib.hid HB4.out.size
  clear hm hO5 b4
  go_wp2_with fail
  have HB45 := Lib.hid b5
  have HNE : Hid (w.heap.size ≠ w4.heap.size ∧ ∀ d, d < x.n → x.lb ≠ w4.heap.size) := Lib.hid ⟨by
    have := World.block_lt_of_cell? w4 _ HST4.out.out.1.2.1.c0
    simp only at this
    omega, fun d hd => by
    obtain ⟨b, f, cl, _⟩ := HST4.out.at_ hd
    have := World.block_lt_of_cell? w4 _ cl
    simp only at this
    omega⟩
  generalize hgg : w4.heap.size = gg at *
  have HGG := Lib.hid hgg
  clear hmk b5 hgg HST5
  go_loopw [32] (fun i wr => ∃ j : Nat, j ≤ m ∧ i = .int .i64 j ∧ Own wr w.heap.size (.slice (some ⟨gg, 0, none⟩) m m) (rawTo ds aw L m j) ∧ Below gg w4 wr) (fun i _ => m - (intOf i).toNat)
  case atStart => exact ⟨0, Nat.zero_le _, rfl, by rw [rawTo_zero]; exact HO5.out, HB45.out⟩
  case round =>
    obtain ⟨j, hj, rfl, ho, hb⟩ := hrel
    have HO := Lib.hid ho
    have HS := Lib.hid (HST4.out.below (w' := wr) (by rw [HGG.out]; exact hb))
    have HB := Lib.hid hb
    have hgw : gg ≤ wr.heap.size := by have := hb.size; have := HGG.out; omega
    have HGW := Lib.hid hgw
    have HNW : Hid (wr.heap.size ≠ gg) := Lib.hid (by
      obtain ⟨g', eg, _, hg', _⟩ := ho.at_ hpos
      simp only [Option.some.injEq, Addr.mk.injEq, and_true] at eg
      omega)
    clear ho hb hgw
    obtain ⟨⟨_, ⟨x0, x1, x2, x3⟩, y0, y1⟩, hcl⟩ := HS.out.out
    by_cases hlt : j < m
    · have hjL : j < L.length := by rw [HM.out]; exact hlt
      obtain ⟨⟨d0, d1⟩, a0, a1⟩ := hPd.out j hjL
      obtain ⟨e0, e1, e2, e3⟩ := ownC_in hcl j hjL
      have HRA : Hid (rawAt ds aw L j = if hereB ds aw (devN L j) then strOf ((ds (devN L j)).now (atN L j)) else ⟨#[]⟩) := Lib.hid rfl
      have HSK : Hid (hereB ds aw (devN L j) = false → rawTo ds aw L m j = rawTo ds aw L m (j + 1)) := Lib.hid (rawTo_skip ds aw L m j)
      generalize devN L j = d at *
      generalize atN L j = a at *
      generalize L[j] = cc at *
      obtain ⟨cd, ca, cp, cr⟩ := cc
      simp only at d0 a0 e0 e1 e2 e3
      subst d0 a0
      have hb6 := boxed wr (.cells #[.int .i64 (d : Int), .int .i64 (a : Int), .bool cp, .int .i64 cr] 44)
      have HS6 := Lib.hid (HS.out.add hb6 (BoxC.new wr ⟨d, a, cp, cr⟩ _ (Nat.le_refl _) 44))
      have HO6 := Lib.hid (HO.out.below hb6)
      have HB6 := Lib.hid (HB.out.trans (hb6.mono HGW.out))
      have HH := Lib.hid (here_any HS6.out d d1)
      unfold Px.val at HH
      obtain ⟨⟨⟨_, ⟨f0, f1, f2, f3⟩, _⟩, _⟩, ⟨f4, f5, f6, f7⟩⟩ := HS6.out.out
      go_wp2_with fail
      refine HH.out.mono ?_
      rintro e w7 ⟨rfl, b7⟩
      have HS7 := Lib.hid (HS6.out.below b7)
      have HO7 := Lib.hid (HO6.out.below b7)
      have HB7 := Lib.hid (HB6.out.trans (b7.mono (by simp; exact Nat.le_succ_of_le HGW.out)))
      clear b7 hb6 x0 x1 x2 x3 y0 y1 e0 e1 e2 e3 f0 f1 f2 f3 f4 f5 f6 f7 hcl HS6 HO6 HB6 HH HS HO HB
      cases hh : hereB ds aw d with
      | false =>
        have HSK' := Lib.hid (HSK.out hh)
        clear HSK
        go_wp2
        go_roundw
        case rel => exact ⟨j + 1, by omega, by go_num, by rw [← HSK'.out]; exact HO7.out, HB7.out⟩
        case measure => simp [intOf]; omega
      | true =>
        rw [hh, if_pos rfl] at HRA
        have hl : (ds d).lost = false := by
          unfold hereB at hh
          simp at hh
          exact hh.2
        have hlen := (HS7.out.good d1).len
        obtain ⟨b, f, cl, hdv⟩ := (HS7.out.below (Below.refl _ w7).drew).at_ d1
        have HRD := Lib.hid (read_ok b (ds d) f a _ hdv hl (by omega))
        generalize strOf ((ds d).now a) = tx at *
        obtain ⟨⟨⟨_, ⟨x0, x1, x2, x3⟩, _⟩, _⟩, ⟨k0, k1, _, _⟩⟩ := HS7.out.out
        simp only at k0 k1
        obtain ⟨g', eg, _, _, _, _, hfz, hcg⟩ := HO7.out.at_ hpos
        simp only [Option.some.injEq, Addr.mk.injEq, and_true] at eg
        subst eg
        have hcj := hcg j (by simp [rawTo]; exact hlt)
        have hfj := hfz j hlt
        generalize (rawTo ds aw L m j)[j]'(by simp [rawTo]; exact hlt) = old at hcj
        clear hcg hfz hh hdv HSK hl
        have q1 : (0 : Int) ≤ (d : Int) := by omega
        have q2 : (d : Int) < (x.n : Int) := by omega
        have q3 : (0 : Int) ≤ (j : Int) := by omega
        have q4 : (j : Int) < (m : Int) := by omega
        go_wp2_with fail
        have n1 : w.heap.size ≠ gg := HNE.out.1
        have n2 : x.lb ≠ gg := HNE.out.2 d d1
        have n3 : wr.heap.size ≠ gg := HNW.out
        have m2 : (w7.drew.setCell ⟨gg, j, none⟩ (.string tx)).cell? ⟨w.heap.size, 2, none⟩ = some (.slice (some ⟨x.lb, 0, none⟩) x.n x.n) := cell_store x2 n1
        have m0 : (w7.drew.setCell ⟨gg, j, none⟩ (.string tx)).cell? ⟨wr.heap.size, 0, none⟩ = some (.int .i64 (d : Int)) := cell_store k0 n3
        have m1 : (w7.drew.setCell ⟨gg, j, none⟩ (.string tx)).cell? ⟨wr.heap.size, 1, none⟩ = some (.int .i64 (a : Int)) := cell_store k1 n3
        have m3 : (w7.drew.setCell ⟨gg, j, none⟩ (.string tx)).cell? ⟨x.lb, d, none⟩ = some (.pointer (some ⟨b, 0, none⟩)) := cell_store cl n2
        go_region_held3 (fun W => W.cell? ⟨w.heap.size, 2, none⟩ = some (.slice (some ⟨x.lb, 0, none⟩) x.n x.n) ∧ W.cell? ⟨wr.heap.size, 0, none⟩ = some (.int .i64 (d : Int)) ∧ W.cell? ⟨wr.heap.size, 1, none⟩ = some (.int .i64 (a : Int)) ∧ W.cell? ⟨x.lb, d, none⟩ = some (.pointer (some ⟨b, 0, none⟩)))
          (first | exact ⟨x2, k0, k1, cl⟩ | exact ⟨m2, m0, m1, m3⟩)
          (first | (go_at_call 22; refine HRD.out.mono ?_; rintro e w8 ⟨rfl, rfl⟩))
        all_goals go_wp2
        go_roundw
        case rel =>
          have hd7 : Below w7.heap.size w7 w7.drew := (Below.refl _ w7).drew
          refine ⟨j + 1, by omega, by go_num, ?_, HB7.out.drew.setCell (p := ⟨gg, j, none⟩) (Nat.le_refl _) _⟩
          rw [← rawTo_set _ _ _ _ _ hlt, HRA.out]
          exact (HO7.out.below hd7).set j hlt tx
        case measure => simp [intOf]; omega
    · obtain rfl : j = m := by omega
      go_wp2
      go_ret2
      refine ⟨_, rfl, ?_, HB4.out.trans (HB.out.mono HG.out)⟩
      have := HO.out
      rw [rawTo_all _ _ _ _ HM.out] at this
      exact this
end
end Go.Proofs.YtlhnmcopioeboaaGreat

/- settle. -/
namespace Go.Proofs.YtlhnmcopioeboaaGreat
set_option maxRecDepth 100000
open Go.RowKit Go.Maps

/-- The medium with one sector turned. -/
theorem DevIn.medSet {w : World} {b mb cb m : Nat} {hd : Nat → Nat × Nat} {S : Dv} {fp : Nat → Prop} (h : DevIn w b mb cb m hd S fp) (k : Nat) (hk : k < S.med.length) (x : Sec) (hx : x.length = 64) :
    DevIn (w.setCells mb (k * 64) (secCells x)) b mb cb m hd { S with med := S.med.set k x } fp := by
  obtain ⟨h1, h2⟩ := heap_setCells mb (secCells x) (k * 64) w
  have e : (S.med.set k x).length = S.med.length := List.length_set
  refine ⟨⟨by rw [e]; exact h.ok.n1, by rw [e]; exact h.ok.n2, fun i hi => h.ok.out i (by rw [← e]; exact hi), h.ok.left, h.ok.cnts⟩, ?_, ?_, h.map.same (h2 _ h.cmb), h.mle, fun i hi => (h.vers i hi).same (h2 _ (h.apart i hi)), h.inj, h.apart, h.fb, h.fm, h.fc, h.fv, fun j hj => by rw [h1]; exact h.lt j hj⟩
  · rw [h2 _ h.bm, h.blk]
    unfold dvCells
    rw [e]
  · have := h.med.setCells k hk x hx
    show Rows _ mb (S.med.set k x).length _
    rw [e]
    exact this

/-- What a crash leaves of a sector by a number. -/
def Dv.settle (S : Dv) (k : Nat) (n : Int) : Dv := { S with med := S.med.set k ((S.med.getD k [] :: S.since k).getD (n % ((S.since k).length + 1 : Int)).toNat []) }
theorem settle_zero {S : Dv} {k : Nat} {n : Int} (hk : k < S.med.length) (h : n % ((S.since k).length + 1 : Int) = 0) : S.settle k n = S := by
  unfold Dv.settle
  rw [h]
  cases S with | mk med since lost fused left cnt =>
  simp only at hk ⊢
  congr 1
  rw [show (0 : Int).toNat = 0 from rfl, List.getD_cons_zero, List.getD_eq_getElem?_getD, List.getElem?_eq_getElem hk]
  simp

end Go.Proofs.YtlhnmcopioeboaaGreat

/- Flush. -/
namespace Go.Proofs.YtlhnmcopioeboaaGreat
set_option maxRecDepth 100000
open Go.RowKit Go.Maps

/-- What is on the map D: the heads of the versions of S. -/
structure HeadsD (D : DataW Unit) (S : Dv) (hd : Nat → Nat × Nat) : Prop where
  at_ : ∀ k, (Lit.int .i64 k).wf = true → D.atKey (.int .i64 k) .nil = (hdOf S hd k).dat
  has : ∀ k, (Lit.int .i64 k).wf = true → Maps.has D (.int .i64 k) = (hdOf S hd k).isSome

theorem head_some {S : Dv} {hd : Nat → Nat × Nat} {x : Int} (h : (hdOf S hd x).isSome = true) : ∃ k : Nat, x = k ∧ S.since k ≠ [] ∧ hdOf S hd x = some ((hd k).1, (S.since k).length, (hd k).2) := by
  unfold hdOf at h ⊢
  split at h
  · cases h
  · rename_i hn
    rw [if_neg hn]
    exact ⟨x.toNat, by omega, fun e => hn (.inr e), rfl⟩
theorem head_of {S : Dv} {hd : Nat → Nat × Nat} {k : Nat} (h : S.since k ≠ []) : hdOf S hd (k : Int) = some ((hd k).1, (S.since k).length, (hd k).2) := by
  unfold hdOf
  rw [if_neg (by simpa using h)]
  rfl
theorem head_none {S : Dv} {hd : Nat → Nat × Nat} {k : Nat} (h : S.since k = []) : hdOf S hd (k : Int) = none := by
  unfold hdOf
  rw [if_pos (.inr (by simpa using h))]
/-- The entry that has come. -/
theorem next_key {D : DataW Unit} {S : Dv} {hd : Nat → Nat × Nat} (H : HeadsD D S hd) {x : Int} {c : Hd} {kl : Lit} {y : DataW Unit × List MemPlace} (hkey : keyOf Tryz.prog 3 (.int .i64 x) = some kl) (hv : hdr c.val = some y) (hat : ∀ zd, D.atKey kl zd = y.1) :
    ∃ k : Nat, x = k ∧ S.since k ≠ [] ∧ c = some ((hd k).1, (S.since k).length, (hd k).2) ∧ kl = .int .i64 (k : Int) := by
  obtain ⟨x', hx, rfl, hwx⟩ := Maps.keyOf_int_inv Tryz.underlying3 hkey
  cases hx
  have h1 := Maps.has_true_of_atKey hat
  rw [H.has x hwx] at h1
  obtain ⟨k, rfl, hs, hh⟩ := head_some h1
  refine ⟨k, rfl, hs, ?_, rfl⟩
  rw [hdr_val] at hv
  cases hv
  have h2 := hat .nil
  rw [H.at_ _ hwx] at h2
  rw [← dat_inj h2, hh]

theorem sameKey_int (a b : Int) : (Lit.int .i64 a).sameKey (.int .i64 b) = decide (a = b) := by simp [Lit.sameKey]

/-- The medium on the way of a flush: what is left is as it was. -/
def flushL (S : Dv) (lf : Nat → Bool) : List Sec := (List.range S.med.length).map fun i => if lf i then S.med.getD i [] else S.now i
theorem flushL_len (S : Dv) (lf : Nat → Bool) : (flushL S lf).length = S.med.length := by simp [flushL]
theorem now_none {S : Dv} {i : Nat} (h : S.since i = []) : S.now i = S.med.getD i [] := by simp [Dv.now, h]
theorem flushL_start (S : Dv) (lf : Nat → Bool) (h : ∀ i, i < S.med.length → lf i = false → S.since i = []) : flushL S lf = S.med := by
  apply List.ext_getElem (flushL_len S lf)
  intro i h1 h2
  simp only [flushL, List.getElem_map, List.getElem_range]
  split
  · rw [List.getD_eq_getElem?_getD, List.getElem?_eq_getElem h2]; rfl
  · rename_i hl
    rw [now_none (h i h2 (by simpa using hl)), List.getD_eq_getElem?_getD, List.getElem?_eq_getElem h2]; rfl
theorem flushL_step (S : Dv) (lf lf' : Nat → Bool) (k : Nat) (hk : lf' k = false) (h : ∀ i, i ≠ k → lf' i = lf i) : (flushL S lf).set k (S.now k) = flushL S lf' := by
  apply List.ext_getElem (by simp [flushL])
  intro i h1 h2
  rw [List.getElem_set]
  split
  · rename_i e
    subst e
    simp [flushL, hk]
  · rename_i e
    simp only [flushL, List.getElem_map, List.getElem_range]
    rw [h i (fun e' => e e'.symm)]
/-- Behind a flush. -/
def Dv.flush (S : Dv) : Dv := { S with med := (List.range S.med.length).map S.now, since := fun _ => [], cnt := 0 }
theorem flushL_end (S : Dv) (lf : Nat → Bool) (h : ∀ i, lf i = false) : ({ S with med := flushL S lf } : Dv).bare = S.flush := by
  unfold Dv.bare Dv.flush flushL
  simp [h]
end Go.Proofs.YtlhnmcopioeboaaGreat

/- Flush: the walk. -/
namespace Go.Proofs.YtlhnmcopioeboaaGreat
set_option maxRecDepth 100000
open Go.RowKit Go.Maps

def FlushRel (w : World) (b mb cb m r : Nat) (hd : Nat → Nat × Nat) (S : Dv) (fp : Nat → Prop) (D : DataW Unit) (wr : World) : Prop :=
  ∃ left cnt, wr.ranges Tryz.prog 3 hdr cb r m D left cnt ∧ DevIn wr b mb cb m hd { S with med := flushL S fun i => left (.int .i64 (i : Int)) } fp ∧ Turn fp w wr

theorem grown_setCells (w : World) (b o : Nat) (vs : List Value) : w.grownBy (w.drew.setCells b o vs) (some b) := by
  obtain ⟨h1, h2⟩ := heap_setCells b vs o w.drew
  obtain ⟨e1, e2, e3⟩ := env_setCells b vs o w.drew
  exact ⟨e1, e2, e3, by rw [h1]; exact Nat.le_refl _, fun k _ hn => h2 k (fun e => hn (by rw [e]))⟩
theorem iter_ne {w : World} {cb r m g c : Nat} {D : DataW Unit} {left : Lit → Bool} {cnt : Nat} {l : List Sec} (h : w.ranges Tryz.prog 3 hdr cb r m D left cnt) (hg : Rows w g c l) : r ≠ g := by
  intro e
  obtain ⟨_, _, _, _, _, _, _, _, _, hr, _⟩ := h
  obtain ⟨cur, h1, _⟩ := hg.shape
  rw [e, h1] at hr
  cases hr
theorem invK : ∀ key kl, keyOf Tryz.prog 3 key = some kl → ∃ x, key = Value.int .i64 x := fun key kl hkey => by
  obtain ⟨x, rfl, _⟩ := Maps.keyOf_int_inv Tryz.underlying3 hkey; exact ⟨x, rfl⟩
theorem invV : ∀ v y, hdr v = some y → ∃ c : Hd, v = c.val := fun v y hv => by
  obtain ⟨c, rfl, _⟩ := hdr_inv hv; exact ⟨c, rfl⟩

end Go.Proofs.YtlhnmcopioeboaaGreat

/- vdev.Flush. -/
namespace Go.Proofs.YtlhnmcopioeboaaGreat
set_option maxRecDepth 100000
open Go.RowKit Go.Maps M

/-- The devices, of which the first j were flushed where they are here. -/
def flTo (ds : Nat → Dv) (aw : Nat → Bool) (j : Nat) (i : Nat) : Dv := if i < j ∧ hereB ds aw i = true then (ds i).flush else ds i
/-- How many of the first j aren't here. -/
def goneN (hr : Nat → Bool) : Nat → Nat
  | 0 => 0
  | j + 1 => if hr j then goneN hr j else goneN hr j + 1
theorem flTo_zero (ds : Nat → Dv) (aw : Nat → Bool) : flTo ds aw 0 = ds := by
  funext i
  unfold flTo
  simp
theorem flTo_yes (ds : Nat → Dv) (aw : Nat → Bool) (j : Nat) (h : hereB ds aw j = true) : upd (flTo ds aw j) j ((flTo ds aw j j).flush) = flTo ds aw (j + 1) := by
  funext i
  unfold upd flTo
  by_cases e : i = j
  · subst e; simp [h]
  · rw [if_neg e]
    by_cases h2 : i < j
    · simp [h2, show i < j + 1 by omega]
    · simp [h2, show ¬ i < j + 1 by omega]
theorem flTo_no (ds : Nat → Dv) (aw : Nat → Bool) (j : Nat) (h : hereB ds aw j = false) : flTo ds aw j = flTo ds aw (j + 1) := by
  funext i
  unfold flTo
  by_cases e : i = j
  · subst e; simp [h]
  · by_cases h2 : i < j
    · simp [h2, show i < j + 1 by omega]
    · simp [h2, show ¬ i < j + 1 by omega]
theorem flTo_here (ds : Nat → Dv) (aw : Nat → Bool) (j : Nat) : hereB (flTo ds aw j) aw = hereB ds aw := by
  funext i
  have : (flTo ds aw j i).lost = (ds i).lost := by unfold flTo; split <;> rfl
  unfold hereB
  rw [this]
theorem goneN_le (hr : Nat → Bool) (j : Nat) : goneN hr j ≤ j := by
  induction j with
  | zero => exact Nat.le_refl _
  | succ j ih => rw [goneN]; split <;> omega
/-- A set of as many numbers as are gone, all of them below j. -/
structure Gone (hr : Nat → Bool) (j : Nat) (S : List Nat) : Prop where
  len : S.length = goneN hr j
  lt : ∀ i ∈ S, i < j
theorem Gone.yes {hr : Nat → Bool} {j : Nat} {S : List Nat} (h : Gone hr j S) (hj : hr j = true) : Gone hr (j + 1) S := ⟨by rw [h.len, goneN, hj]; rfl, fun i hi => by have := h.lt i hi; omega⟩
theorem Gone.no {hr : Nat → Bool} {j : Nat} {S : List Nat} (h : Gone hr j S) (hj : hr j = false) : Gone hr (j + 1) (putN S j) := by
  have hn : j ∉ S := fun e => by have := h.lt j e; omega
  unfold putN
  rw [if_neg hn]
  refine ⟨by rw [List.length_append, h.len, goneN, hj]; rfl, fun i hi => ?_⟩
  rcases List.mem_append.1 hi with e | e
  · have := h.lt i e; omega
  · rw [List.mem_singleton.1 e]; omega

section
variable {X : Nat → Prop} {B : Nat} {w : World} {x : Px} {l : List (Int × Int)} {ds : Nat → Dv} {aw : Nat → Bool} {K : Nat} {P : World → Prop}
def errF (N n : Nat) : Int := if N = n then 6 else 0
end
section
variable {B : Nat} {w : World} {x : Px} {l : List (Int × Int)} {ds : Nat → Dv} {aw : Nat → Bool} {K : Nat} {P : World → Prop}
end
end Go.Proofs.YtlhnmcopioeboaaGreat

/- Cached. -/
namespace Go.Proofs.YtlhnmcopioeboaaGreat
set_option maxRecDepth 100000
open Go.RowKit Go.Maps

theorem lt_extD : ∀ (l m : List Int), l.Pairwise (· < ·) → m.Pairwise (· < ·) → (∀ x, x ∈ l ↔ x ∈ m) → l = m
  | [], [], _, _, _ => rfl
  | [], y :: m, _, _, h => by have := (h y).2 List.mem_cons_self; cases this
  | x :: l, [], _, _, h => by have := (h x).1 List.mem_cons_self; cases this
  | x :: l, y :: m, hl, hm, h => by
    obtain ⟨h1, h2⟩ := List.pairwise_cons.1 hl
    obtain ⟨h3, h4⟩ := List.pairwise_cons.1 hm
    have e : x = y := by
      rcases List.mem_cons.1 ((h x).1 List.mem_cons_self) with e | e
      · exact e
      · rcases List.mem_cons.1 ((h y).2 List.mem_cons_self) with e' | e'
        · exact e'.symm
        · have := h3 x e; have := h1 y e'; omega
    subst e
    rw [lt_extD l m h2 h4 fun z => ⟨fun hz => ?_, fun hz => ?_⟩]
    · rcases List.mem_cons.1 ((h z).1 (List.mem_cons_of_mem _ hz)) with e | e
      · subst e; have := h1 z hz; omega
      · exact e
    · rcases List.mem_cons.1 ((h z).2 (List.mem_cons_of_mem _ hz)) with e | e
      · subst e; have := h3 z hz; omega
      · exact e
theorem sort_ext (l m : List Int) (hl : l.Nodup) (hm : m.Pairwise (· < ·)) (h : ∀ x, x ∈ l ↔ x ∈ m) : (l.mergeSort fun x y => decide (x ≤ y)) = m := by
  refine lt_extD _ _ ?_ hm fun x => by rw [List.mem_mergeSort]; exact h x
  have h1 := List.pairwise_mergeSort (le := fun x y : Int => decide (x ≤ y)) (fun a b c h1 h2 => by simp at *; omega) (fun a b => by simp; omega) l
  have h2 : (l.mergeSort fun x y => decide (x ≤ y)).Nodup := (List.mergeSort_perm l _).nodup_iff.2 hl
  have h3 := h1.and h2
  exact h3.imp fun ⟨h4, h5⟩ => by simp at h4; omega

/-- The sectors in the cache, rising. -/
def Dv.keys (S : Dv) : List Nat := (List.range S.med.length).filter fun i => !(S.since i).isEmpty
theorem mem_keys {S : Dv} (h : DvOk S) {i : Nat} : i ∈ S.keys ↔ S.since i ≠ [] := by
  simp only [Dv.keys, List.mem_filter, List.mem_range]
  constructor
  · rintro ⟨_, h2⟩ e; simp [e] at h2
  · intro h2
    refine ⟨?_, by simpa using h2⟩
    rcases Nat.lt_or_ge i S.med.length with h3 | h3
    · exact h3
    · exact absurd (h.out i h3) h2
theorem keys_lt (S : Dv) : (S.keys.map Int.ofNat).Pairwise (· < ·) := by
  rw [List.pairwise_map]
  refine (List.Pairwise.filter _ List.pairwise_lt_range).imp ?_
  intro a b h
  show (a : Int) < b
  omega
theorem mem_keysI {S : Dv} (h : DvOk S) (x : Int) : x ∈ S.keys.map Int.ofNat ↔ ∃ i : Nat, x = i ∧ S.since i ≠ [] := by
  rw [List.mem_map]
  constructor
  · rintro ⟨i, h1, rfl⟩; exact ⟨i, rfl, (mem_keys h).1 h1⟩
  · rintro ⟨i, rfl, h1⟩; exact ⟨i, (mem_keys h).2 h1, rfl⟩

/-- The slice v is the call's own, from block B on, and it is the numbers l. -/
def OwnID (w : World) (B : Nat) (v : Value) (l : List Int) : Prop := w.ownsRow B 3 1 v l.length (l.map (Value.int .i64))

def CachedRel (w : World) (S : Dv) (cb m r : Nat) (D : DataW Unit) (v : Value) (wr : World) : Prop :=
  ∃ left cnt, ∃ l : List Int, wr.ranges Tryz.prog 3 hdr cb r m D left cnt ∧ OwnID wr r v l ∧ Below r w wr ∧ l.Nodup ∧ l.length + cnt ≤ m ∧
    (∀ x, x ∈ l ↔ ∃ i : Nat, x = i ∧ S.since i ≠ [] ∧ left (.int .i64 (i : Int)) = false) ∧ r ≤ wr.heap.size
theorem info_int : ∃ i, Tryz.prog.info? 3 = some i ∧ i.zero = some (.int .i64 0) ∧ i.size = 1 ∧ i.bytes = 8 := info_parts (by kernel_rfl)

theorem sort_none (w : World) : Calls Tryz.prog 70 #[.slice none 0 0] w fun e w' => e = .returned (.tuple #[]) ∧ w = w' :=
  (Any.slices_Sort_int_none Tryz.lays189 none 0 w).mono fun _ _ ⟨h1, h2⟩ => ⟨h1, h2.symm⟩
theorem OwnID.sort {w : World} {B : Nat} {g cap : Nat} {cur : Array Value} {l m : List Int} (hB : B ≤ g) (hb : w.heap[g]? = some (.cells cur 3 (0, 0))) (h1 : l.length ≤ cap) (h2 : cap ≤ maxLen) (h3 : cur.size = cap * 1) (h4 : cur.toList.take (l.length * 1) = l.map (Value.int .i64))
    (hs : (l.mergeSort fun x y => decide (x ≤ y)) = m) (hl : l.length ≤ 4294967296) (hBw : B ≤ w.heap.size) :
    Calls Tryz.prog 70 #[.slice (some ⟨g, 0, none⟩) l.length cap] w fun e w' => e = .returned (.tuple #[]) ∧ OwnID w' B (.slice (some ⟨g, 0, none⟩) l.length cap) m ∧ Below B w w' := by
  refine (Tryz.slices_Sort_int g 0 cap l w (holds_of_blockI hb (by simpa using h4)) (Array.getElem?_eq_some_iff.1 hb).1 (by omega)).mono ?_
  rintro e w' ⟨rfl, n, os, rfl⟩
  have hml : m.length = l.length := by rw [← hs]; simp
  refine ⟨rfl, ?_, ?_⟩
  · rw [hs]
    have := ownsRow_sortedI (n := n) (os := os) (base := B) (ss := l) (ts := m) hml hB hb h1 h2 h3
    unfold OwnID
    rw [hml]
    exact this
  · exact (Below.refl _ w).grown (grownBy_sortedI _) hBw (fun j hj => by cases hj; exact hB)

end Go.Proofs.YtlhnmcopioeboaaGreat

/- Crash. -/
namespace Go.Proofs.YtlhnmcopioeboaaGreat
set_option maxRecDepth 100000
open Go.RowKit Go.Maps

/-- The slice value v is the numbers l; they lie in no block of fp. -/
def Ints (fp : Nat → Prop) (w : World) (v : Value) (l : List Int) : Prop :=
  ∃ a c, v = .slice a l.length c ∧ l.length ≤ c ∧ ∀ j, j < l.length → ∃ g o, a = some ⟨g, o, none⟩ ∧ ¬ fp g ∧ g < w.heap.size ∧ w.cell? ⟨g, o + j, none⟩ = some (.int .i64 (l.getD j 0))
theorem Ints.nil (fp : Nat → Prop) (w : World) : Ints fp w (.slice none 0 0) [] := ⟨none, 0, rfl, Nat.le_refl _, fun _ h => absurd h (Nat.not_lt_zero _)⟩
theorem Ints.turn {fp fp' : Nat → Prop} {w w' : World} {v : Value} {l : List Int} (h : Ints fp w v l) (t : Turn fp w w') (hf : ∀ k, fp' k → fp k ∨ w.heap.size ≤ k) : Ints fp' w' v l := by
  obtain ⟨a, c, rfl, h1, h2⟩ := h
  refine ⟨a, c, rfl, h1, fun j hj => ?_⟩
  obtain ⟨g, o, rfl, h3, h4, h5⟩ := h2 j hj
  exact ⟨g, o, rfl, fun e => by rcases hf g e with e | e; exact h3 e; omega, Nat.lt_of_lt_of_le h4 t.size, by rw [World.cell?_of_block (w := w) (t.block g h4 h3)]; exact h5⟩
theorem Ints.below {fp : Nat → Prop} {w w' : World} {v : Value} {l : List Int} (h : Ints fp w v l) (hb : Below w.heap.size w w') : Ints fp w' v l := h.turn (Turn.of_below hb) fun _ h => .inl h
theorem Ints.at_ {fp : Nat → Prop} {w : World} {a : Option Addr} {n c : Nat} {l : List Int} (h : Ints fp w (.slice a n c) l) : l.length = n ∧ ∀ j, j < l.length → ∃ g o, a = some ⟨g, o, none⟩ ∧ ¬ fp g ∧ g < w.heap.size ∧ w.cell? ⟨g, o + j, none⟩ = some (.int .i64 (l.getD j 0)) := by
  obtain ⟨a', c', e, h1, h2⟩ := h
  cases e
  exact ⟨rfl, h2⟩
theorem OwnID.ints {fp : Nat → Prop} {w : World} {B : Nat} {v : Value} {l : List Int} (h : OwnID w B v l) (hf : ∀ k, fp k → k < B) : Ints fp w v l := by
  have hcells := fun g hg => World.ownsRow.cells (g := g) h hg
  rcases h.2 with ⟨rfl, hn⟩ | ⟨g, cap, cur, rfl, hB, hg, hnc, _⟩
  · have : l = [] := List.eq_nil_of_length_eq_zero hn
    subst this
    exact Ints.nil _ _
  · refine ⟨_, cap, rfl, hnc, fun j hj => ⟨g, 0, rfl, fun e => by have := hf g e; omega, (Array.getElem?_eq_some_iff.1 hg).1, ?_⟩⟩
    have := hcells g rfl j (.int .i64 l[j]) (by rw [List.getElem?_map, List.getElem?_eq_getElem hj]; rfl)
    rw [Go.WideShapes.add_plain] at this
    rw [this, List.getD_eq_getElem?_getD, List.getElem?_eq_getElem hj]
    rfl

/-- On the way of a crash: t of the sectors in the cache are settled. -/
def Dv.crashTo (S : Dv) (l : List Int) : Nat → Dv
  | 0 => S
  | t + 1 => if t < l.length then (S.crashTo l t).settle (S.keys.getD t 0) (l.getD t 0) else S.crashTo l t
/-- Behind a crash. -/
def Dv.crash (S : Dv) (l : List Int) : Dv := { (S.crashTo l S.keys.length).bare with fused := false }
theorem crashTo_since (S : Dv) (l : List Int) (t : Nat) : (S.crashTo l t).since = S.since ∧ (S.crashTo l t).med.length = S.med.length ∧ (S.crashTo l t).cnt = S.cnt ∧ (S.crashTo l t).lost = S.lost := by
  induction t with
  | zero => exact ⟨rfl, rfl, rfl, rfl⟩
  | succ t ih =>
    unfold Dv.crashTo
    split
    · unfold Dv.settle
      exact ⟨ih.1, by simp only [List.length_set]; exact ih.2.1, ih.2.2.1, ih.2.2.2⟩
    · exact ih
theorem keys_at {S : Dv} (h : DvOk S) (t : Nat) (ht : t < S.keys.length) : S.keys.getD t 0 < S.med.length ∧ S.since (S.keys.getD t 0) ≠ [] := by
  have hm : S.keys.getD t 0 ∈ S.keys := by
    rw [List.getD_eq_getElem?_getD, List.getElem?_eq_getElem ht]; exact List.getElem_mem ht
  refine ⟨?_, (mem_keys h).1 hm⟩
  simp only [Dv.keys, List.mem_filter, List.mem_range] at hm
  exact hm.1
def CrashRel (w : World) (b mb cb m : Nat) (hd : Nat → Nat × Nat) (S : Dv) (fp : Nat → Prop) (l : List Int) (u : Value) (wr : World) : Prop :=
  ∃ t : Nat, t ≤ S.keys.length ∧ u = .int .i64 (t : Int) ∧ DevIn wr b mb cb m hd (S.crashTo l t) fp ∧ Turn fp w wr

end Go.Proofs.YtlhnmcopioeboaaGreat

/- Spoil, Fresh, New. -/
namespace Go.Proofs.YtlhnmcopioeboaaGreat
set_option maxRecDepth 100000
open Go.RowKit Go.Maps

/-- What is left of a device of which a sector's text was turned where it reads. -/
def Dv.turn (S : Dv) (k : Nat) (x : Sec) : Dv :=
  if S.since k = [] then { S with med := S.med.set k x } else { S with since := fun i => if i = k then (S.since k).set ((S.since k).length - 1) x else S.since i }
/-- A byte of what a sector reads as is made one with another. -/
def spoilt (s : Sec) (p : Nat) (by_ : UInt8) : Sec := s.set p ((s.getD p 0) ^^^ by_)
theorem DevIn.medCell {w : World} {b mb cb m : Nat} {hd : Nat → Nat × Nat} {S : Dv} {fp : Nat → Prop} (h : DevIn w b mb cb m hd S fp) (k : Nat) (hk : k < S.med.length) (p : Nat) (hp : p < 64) (x : UInt8) :
    DevIn (w.setCell ⟨mb, k * 64 + p, none⟩ (.int .u8 (x.toNat : Int))) b mb cb m hd { S with med := S.med.set k (S.med[k].set p x) } fp := by
  have h2 : ∀ j, j ≠ mb → (w.setCell ⟨mb, k * 64 + p, none⟩ (.int .u8 (x.toNat : Int))).heap[j]? = w.heap[j]? := fun j hj => Below.heap_setCell _ _ _ _ hj
  have e : (S.med.set k (S.med[k].set p x)).length = S.med.length := List.length_set
  refine ⟨⟨by rw [e]; exact h.ok.n1, by rw [e]; exact h.ok.n2, fun i hi => h.ok.out i (by rw [← e]; exact hi), h.ok.left, h.ok.cnts⟩, ?_, ?_, h.map.same (h2 _ h.cmb), h.mle, fun i hi => (h.vers i hi).same (h2 _ (h.apart i hi)), h.inj, h.apart, h.fb, h.fm, h.fc, h.fv, fun j hj => by simpa [World.setCell] using h.lt j hj⟩
  · rw [h2 _ h.bm, h.blk]
    unfold dvCells
    rw [e]
  · have := h.med.setCell k hk p hp x
    show Rows _ mb (S.med.set k (S.med[k].set p x)).length _
    rw [e]
    exact this
theorem DevIn.verCell {w : World} {b mb cb m : Nat} {hd : Nat → Nat × Nat} {S : Dv} {fp : Nat → Prop} (h : DevIn w b mb cb m hd S fp) (k : Nat) (hk : S.since k ≠ []) (i : Nat) (hi : i < (S.since k).length) (p : Nat) (hp : p < 64) (x : UInt8) :
    DevIn (w.setCell ⟨(hd k).1, i * 64 + p, none⟩ (.int .u8 (x.toNat : Int))) b mb cb m hd { S with since := fun j => if j = k then (S.since k).set i ((S.since k)[i].set p x) else S.since j } fp := by
  have h2 : ∀ j, j ≠ (hd k).1 → (w.setCell ⟨(hd k).1, i * 64 + p, none⟩ (.int .u8 (x.toNat : Int))).heap[j]? = w.heap[j]? := fun j hj => Below.heap_setCell _ _ _ _ hj
  have hs : ∀ j, (if j = k then (S.since k).set i ((S.since k)[i].set p x) else S.since j) = [] ↔ S.since j = [] := fun j => by
    by_cases e : j = k
    · subst e; simp
    · simp [e]
  have hl : ∀ j, (if j = k then (S.since k).set i ((S.since k)[i].set p x) else S.since j).length = (S.since j).length := fun j => by
    by_cases e : j = k
    · subst e; simp
    · simp [e]
  refine ⟨⟨h.ok.n1, h.ok.n2, fun j hj => (hs j).2 (h.ok.out j hj), h.ok.left, fun j => ?_⟩, (h2 _ (h.bv k hk)).trans h.blk, h.med.same (h2 _ (h.apart k hk).symm), (h.map.same (h2 _ (h.cv k hk))).congr fun j _ => ?_, h.mle, fun j hj => ?_, fun j j' hj hj' => ?_, fun j hj => ?_, h.fb, h.fm, h.fc, fun j hj => ?_, fun j hj => by simpa [World.setCell] using h.lt j hj⟩
  · simp only [hl]; exact h.ok.cnts j
  · unfold hdOf
    simp only [hs, hl]
  · have hj' : S.since j ≠ [] := fun e => hj ((hs j).2 e)
    by_cases e : j = k
    · subst e
      simp only [if_true]
      exact (h.vers j hj').setCell i hi p hp x
    · simp only [if_neg e]
      exact (h.vers j hj').same (h2 _ fun e' => e (h.inj j k hj' hk e'))
  · exact h.inj j j' (fun e => hj ((hs j).2 e)) (fun e => hj' ((hs j').2 e))
  · exact h.apart j (fun e => hj ((hs j).2 e))
  · exact h.fv j (fun e => hj ((hs j).2 e))
theorem DevIn.turned {w : World} {b mb cb m : Nat} {hd : Nat → Nat × Nat} {S : Dv} {fp : Nat → Prop} (h : DevIn w b mb cb m hd S fp) (k : Nat) (hk : k < S.med.length) (p : Nat) (hp : p < 64) (by_ : UInt8) :
    DevIn (w.setCell ⟨lastG S mb hd k, lastI S k * 64 + p, none⟩ (.int .u8 (((S.now k).getD p 0 ^^^ by_).toNat : Int))) b mb cb m hd (S.turn k (spoilt (S.now k) p by_)) fp := by
  obtain ⟨_, hi, hnow⟩ := last_rows h k hk
  unfold lastG lastI Dv.turn spoilt
  unfold lastL lastI at hi hnow
  by_cases e : S.since k = []
  · simp only [e, if_true] at hi hnow ⊢
    have := h.medCell k hk p hp ((S.now k).getD p 0 ^^^ by_)
    rw [hnow] at this
    exact this
  · simp only [e, if_false] at hi hnow ⊢
    have := h.verCell k e _ hi p hp ((S.now k).getD p 0 ^^^ by_)
    rw [hnow] at this
    exact this
theorem lastFp {w : World} {b mb cb m : Nat} {hd : Nat → Nat × Nat} {S : Dv} {fp : Nat → Prop} (h : DevIn w b mb cb m hd S fp) (k : Nat) : fp (lastG S mb hd k) := by
  unfold lastG
  split
  · exact h.fm
  · rename_i e; exact h.fv k e

theorem bits_xor (a b : UInt8) : bits BinOp.xor IntKind.u8 (a.toNat : Int) (b.toNat : Int) = ((a ^^^ b).toNat : Int) := by
  rw [u8_xor_nat _ _ (UInt8.toNat_lt a) (UInt8.toNat_lt b), UInt8.toNat_xor]
end Go.Proofs.YtlhnmcopioeboaaGreat

/- Fresh, New. -/
namespace Go.Proofs.YtlhnmcopioeboaaGreat
set_option maxRecDepth 100000
open Go.RowKit Go.Maps

/-- A sector full of a byte. -/
def fullS (c : UInt8) : Sec := List.replicate 64 c
theorem fullS_len (c : UInt8) : (fullS c).length = 64 := by simp [fullS]
/-- A new device in the place of another one. -/
def Dv.fresh (S : Dv) (c : UInt8) : Dv := { S with med := List.replicate S.med.length (fullS c), since := fun _ => [], lost := false, fused := false, cnt := 0 }
def freshL (S : Dv) (x : Sec) (t : Nat) : List Sec := List.replicate t x ++ S.med.drop t
theorem freshL_len (S : Dv) (x : Sec) (t : Nat) (h : t ≤ S.med.length) : (freshL S x t).length = S.med.length := by simp [freshL]; omega
theorem freshL_zero (S : Dv) (x : Sec) : freshL S x 0 = S.med := by simp [freshL]
theorem freshL_step (S : Dv) (x : Sec) (t : Nat) (h : t < S.med.length) : (freshL S x t).set t x = freshL S x (t + 1) := by
  unfold freshL
  rw [List.set_append_right _ _ (by simp)]
  rw [List.drop_eq_getElem_cons h, List.length_replicate, Nat.sub_self, List.set_cons_zero, List.replicate_succ', List.append_assoc]
  rfl
theorem freshL_end (S : Dv) (c : UInt8) : ({ ({ S with med := freshL S (fullS c) S.med.length } : Dv).bare with lost := false, fused := false } : Dv) = S.fresh c := by
  unfold Dv.bare Dv.fresh freshL
  simp
def FillRel (w : World) (vb : Nat) (c : Int) (u : Value) (wr : World) : Prop :=
  ∃ t : Nat, t ≤ 64 ∧ u = .int .i64 (t : Int) ∧ Below w.heap.size w wr ∧ wr.there vb 0 64 ∧ (∀ j, j < t → wr.cell? ⟨vb, j, none⟩ = some (.int .u8 c)) ∧ w.heap.size < wr.heap.size
def FreshRel (w : World) (b mb cb m vb : Nat) (hd : Nat → Nat × Nat) (S : Dv) (fp : Nat → Prop) (x : Sec) (u : Value) (wr : World) : Prop :=
  ∃ t : Nat, t ≤ S.med.length ∧ u = .int .i64 (t : Int) ∧ DevIn wr b mb cb m hd { S with med := freshL S x t } fp ∧ Turn fp w wr ∧ wr.rangeAt vb 0 (secCells x)
theorem fresh_nil (c : Value) (w : World) :
    Calls Tryz.prog 33 #[.pointer none, c] w fun e w' => e = .returned (.tuple #[]) ∧ w = w' := by
  go_enter Tryz.func33, Tryz.ntmps33
  go_wp2
  exact bodyPost_ret (results_none rfl _ _ _) rfl ⟨rfl, rfl⟩

set_option maxRecDepth 100000 in
set_option maxHeartbeats 1000000 in
theorem fresh_any (b : Nat) (S : Dv) (fp : Nat → Prop) (c : UInt8) (w : World) (h : DevAt w b S fp) :
    Calls Tryz.prog 33 #[.pointer (some ⟨b, 0, none⟩), .int .u8 (c.toNat : Int)] w fun e w' => e = .returned (.tuple #[]) ∧ Did fp b (S.fresh c) w w' := by
  obtain ⟨mb, cb, m, hd, h⟩ := h
  have H := Lib.hid h
  have hn2 := h.ok.n2
  clear h
  go_enter Tryz.func33, Tryz.ntmps33
  go_wp2_with fail
  have hrel0 : FillRel w w.heap.size (c.toNat : Int) (.int .i64 0) (w.alloc (.cells (Array.replicate 64 (.int .u8 0)) 111)) :=
    ⟨0, Nat.zero_le _, rfl, (Below.refl _ w).alloc (Nat.le_refl _) _, there_new _ _ _ _ (by simp), fun j hj => absurd hj (Nat.not_lt_zero _), by simp⟩
  go_loopw [9] (fun u wr => FillRel w w.heap.size (c.toNat : Int) u wr) (fun u _ => 64 - (intOf u).toNat)
  case atStart => exact hrel0
  case round =>
    obtain ⟨t, ht, rfl, hb, hth, hce, hsz⟩ := hrel
    clear hrel0
    by_cases hlt : t < 64
    · obtain ⟨u0, hu0⟩ := Option.isSome_iff_exists.1 (hth t hlt).1
      have hf0 := (hth t hlt).2
      rw [Nat.zero_add] at hu0 hf0
      have HTH := Lib.hid hth
      have HCE := Lib.hid hce
      clear hth hce
      go_wp2
      go_roundw
      case rel =>
        refine ⟨t + 1, by omega, by go_num, hb.setCell (Nat.le_refl _) _, fun j hj => ⟨?_, ?_⟩, fun j hj => ?_, by simpa [World.setCell] using hsz⟩
        · by_cases e : t = j
          · subst e
            rw [Nat.zero_add, World.cell?_setCell_same _ _ _ hu0]; rfl
          · rw [World.cell?_setCell_other _ _ _ _ (by intro h; injection h with _ h _; omega)]
            exact (HTH.out j hj).1
        · rw [World.frozen?_setCell]; exact (HTH.out j hj).2
        · by_cases e : t = j
          · subst e
            rw [World.cell?_setCell_same _ _ _ hu0]
          · rw [World.cell?_setCell_other _ _ _ _ (by intro h; injection h with _ h _; omega)]
            exact HCE.out j (by omega)
      case measure => simp [intOf]; omega
    · obtain rfl : t = 64 := by omega
      have r1 : wr.rangeAt w.heap.size 0 (secCells (fullS c)) := fun j v hv => by
        have hj : j < 64 := by
          have := (List.getElem?_eq_some_iff.1 hv).1
          rw [secCells_len, fullS_len] at this
          exact this
        rw [Nat.zero_add, hce j hj, ← hv, secCells, List.getElem?_map, fullS, List.getElem?_replicate, if_pos hj]
        rfl
      have hd1 := H.out.below hb
      have hvb : ¬ fp w.heap.size := fun e => Nat.lt_irrefl _ (H.out.lt _ e)
      have T1 : Turn fp w wr := Turn.of_below hb
      have HT1 := Lib.hid T1
      have c0 := hd1.c0
      have hrel1 : FreshRel w b mb cb m w.heap.size hd S fp (fullS c) (.int .i64 0) wr := ⟨0, Nat.zero_le _, rfl, by rw [freshL_zero]; exact hd1, T1, r1⟩
      clear hb hth hce hsz T1 hd1 r1
      have HVB := Lib.hid hvb
      clear hvb
      generalize hN : S.med.length = N at *
      have HN := Lib.hid hN
      clear hN ht hlt
      generalize w.heap.size = vb at *
      go_wp2_with fail
      clear c0
      go_loopw [21] (fun u wr => FreshRel w b mb cb m vb hd S fp (fullS c) u wr) (fun u _ => N - (intOf u).toNat)
      case atStart => exact hrel1
      case round =>
        obtain ⟨t, ht, rfl, hdev, hturn, rv⟩ := hrel
        clear hrel1
        by_cases hlt : t < N
        · have hlen : (freshL S (fullS c) t).length = N := by rw [freshL_len S _ t ht]; exact HN.out
          have hk : t < ({ S with med := freshL S (fullS c) t } : Dv).med.length := by show t < (freshL S (fullS c) t).length; rw [hlen]; exact hlt
          have tm := hdev.med.there t hk
          have hD := hdev.drew.medSet t hk (fullS c) (fullS_len c)
          have c0 := hdev.c0
          have cD := hD.c0
          have rD := World.rangeAt_setCells_apart (w := wr.drew) rv mb (t * 64) (secCells (fullS c)) (.inl fun e => HVB.out (e ▸ hdev.fm))
          have tD := World.there_setCells (w := wr.drew) tm mb (t * 64) (secCells (fullS c))
          have T := Lib.hid ((hturn.trans (Turn.of_below (fp := fp) (Below.refl _ wr).drew) fun _ h => .inl h).setCells hdev.fm (t * 64) (secCells (fullS c)))
          simp only at hD
          rw [freshL_step S _ t (by rw [HN.out]; exact hlt)] at hD
          have HDv := Lib.hid hD
          have h1c := secCells_one (fullS c)
          have hl64 : (secCells (fullS c)).length = 64 := by rw [secCells_len, fullS_len]
          have hu := Tryz.underlying111
          have hi : (Tryz.prog.info? 111).map (·.size) = some (secCells (fullS c)).length := by
            obtain ⟨i, z, hi, _, hs, _⟩ := info_sec
            rw [hi, hl64, ← hs]; rfl
          simp only [List.length_set] at cD
          simp only at c0
          rw [hlen] at c0 cD
          have HTL : Hid (t + 1 ≤ S.med.length) := by show t + 1 ≤ _; rw [HN.out]; omega
          clear hD hdev hturn hlen hk ht
          unfold FreshRel
          generalize secCells (fullS c) = cs at *
          have q4 : (t : Int) < (N : Int) := by omega
          go_wp2_with fail
          go_region_held3 (fun w' => w'.cell? ⟨b, 0, none⟩ = some (.slice (some ⟨mb, 0, none⟩) N N) ∧ w'.rangeAt vb 0 cs ∧ w'.there mb (t * 64) 64) (first | exact ⟨c0, rv, tm⟩ | exact ⟨cD, rD, tD⟩) (first | fail)
          all_goals
            go_wp2
            go_roundw
            case rel => exact ⟨t + 1, HTL.out, by go_num, HDv.out, T.out, rD⟩
            case measure => simp [intOf]; omega
        · have e : t = N := by rw [HN.out] at ht; omega
          subst e
          have c1 := hdev.c1
          have HD := Lib.hid hdev
          clear hdev rv hlt ht
          go_wp2_with (obtain ⟨w', hr, h3, h4⟩ := wipe_any HD.out _; have c2 := h3.c2; have f2 := h3.fr 2; have c3 := h3.c3; have f3 := h3.fr 3; have H3 := Lib.hid h3; clear h3; refine wpList_clear _ rfl _ _ rfl _ rfl _ hr ?_)
          go_end0
          refine ⟨rfl, Did.of (mb := mb) (cb := cb) (m := 0) (hd := hd) (S := S.fresh c) ?_ (((hturn.trans h4 fun _ h => .inl h).setCell (.inl H3.out.fb) _).setCell (.inl H3.out.fb) _)⟩
          have := (H3.out.set2 false).set3 false
          rw [← freshL_end, HN.out]
          exact this
end Go.Proofs.YtlhnmcopioeboaaGreat

/- New. -/
namespace Go.Proofs.YtlhnmcopioeboaaGreat
set_option maxRecDepth 100000
open Go.RowKit Go.Maps

/-- A new device. -/
def newDv (n : Nat) : Dv := { med := List.replicate n (fullS 0), since := fun _ => [], lost := false, fused := false, left := 0, cnt := 0 }
/-- The world behind make([]sector, n). -/
def secsW (w : World) (n : Nat) : World := w.alloc (.cells (madeCells (Array.replicate 64 (.int .u8 0)) (n * 64)) 111)
theorem make_secs (w : World) (n : Nat) (hn : n ≤ 4096) : (Instr.makeSlice 84 (.int .i64 (n : Int)) (.int .i64 (n : Int))).run Tryz.prog w = .ok (.slice (some ⟨w.heap.size, 0, none⟩) n n) (secsW w n) := by
  obtain ⟨i, h1, h2, h3, h4⟩ := info_parts (P := Tryz.prog) (e := 111) (z := .agg (Array.replicate 64 (.int .u8 0))) (size := 64) (bytes := 64) (by kernel_rfl)
  have := run_make (P := Tryz.prog) w 84 111 i _ Tryz.underlying84 h1 h2 .i64 .i64 n n (by omega) (by omega) (by rw [h4]; omega) (by omega)
  rw [this, h3]
  rfl
theorem full_at (c : UInt8) (j : Nat) (hj : j < 64) : (secCells (fullS c))[j]? = some (.int .u8 (c.toNat : Int)) := by
  rw [secCells, List.getElem?_map, fullS, List.getElem?_replicate, if_pos hj]
  rfl
theorem secsW_rows (w : World) (n : Nat) (hn : n ≤ 4096) : Rows (secsW w n) w.heap.size n (List.replicate n (fullS 0)) := by
  have hh : (secsW w n).heap[w.heap.size]? = some (.cells (madeCells (Array.replicate 64 (.int .u8 0)) (n * 64)) 111 (0, 0)) := heap_alloc_new w _
  refine ⟨⟨_, hh, size_madeCells _ _⟩, fun i hi j hj => ?_, by simp, by unfold maxLen; omega, fun s hs => by rw [(List.mem_replicate.1 hs).2]; exact fullS_len 0⟩
  rw [List.length_replicate] at hi
  rw [List.getElem_replicate]
  unfold World.cell?
  simp only [hh]
  have h1 : i * 64 + j < n * 64 := by omega
  have h2 : (i * 64 + j) % 64 = j := by omega
  rw [full_at 0 j hj]
  simp [madeCells, h1, h2, hj]
theorem secsW_below (w : World) (n : Nat) : Below w.heap.size w (secsW w n) := (Below.refl _ w).alloc (Nat.le_refl _) _

theorem new_no (k : Int) (w : World) (h : k < 1 ∨ 4096 < k) :
    Calls Tryz.prog 32 #[.int .i64 k] w fun e w' => e = .returned (.tuple #[.pointer none, .int .i64 1]) ∧ w = w' := by
  by_cases h1 : k < 1
  · go_enter Tryz.func32, Tryz.ntmps32
    go_wp2
    go_ret2
    exact ⟨rfl, rfl⟩
  · have h2 : 4096 < k := by omega
    have h3 : decide (k < 1) = false := by simpa using h1
    go_enter Tryz.func32, Tryz.ntmps32
    go_wp2
    go_ret2
    exact ⟨rfl, rfl⟩
/-- The world behind New. -/
def newW (w : World) (n : Nat) : World := ((secsW w n).alloc (.map #[] 0)).alloc (.cells (dvCells (newDv n) w.heap.size (w.heap.size + 1)) 87)
theorem newW_dev (w : World) (n : Nat) (h1 : 1 ≤ n) (h2 : n ≤ 4096) : DevAt (newW w n) (w.heap.size + 2) (newDv n) (fun k => w.heap.size ≤ k ∧ k < w.heap.size + 3) ∧ Below w.heap.size w (newW w n) := by
  have z1 : (secsW w n).heap.size = w.heap.size + 1 := by simp [secsW]
  have z2 : ((secsW w n).alloc (.map #[] 0)).heap.size = w.heap.size + 2 := by simp [z1]
  have z3 : (newW w n).heap.size = w.heap.size + 3 := by unfold newW; simp [z1]
  have hbel : Below w.heap.size w (newW w n) := ((secsW_below w n).alloc (by omega) _).alloc (by omega) _
  have hl : (newDv n).med.length = n := by simp [newDv]
  have a1 : ∀ k, k < w.heap.size + 1 → (newW w n).heap[k]? = (secsW w n).heap[k]? := fun k hk => by
    unfold newW
    rw [Below.heap_alloc _ _ _ (by omega), Below.heap_alloc _ _ _ (by omega)]
  refine ⟨⟨w.heap.size, w.heap.size + 1, 0, fun _ => (0, 0), ?_⟩, hbel⟩
  refine ⟨⟨by rw [hl]; exact h1, by rw [hl]; exact h2, fun _ _ => rfl, by show 0 < _; omega, fun _ => Nat.le_refl _⟩, ?_, ?_, ?_, Nat.le_refl _, fun i hi => absurd rfl hi, fun i _ hi => absurd rfl hi, fun i hi => absurd rfl hi, ⟨by omega, by omega⟩, ⟨by omega, by omega⟩, ⟨by omega, by omega⟩, fun i hi => absurd rfl hi, fun k hk => by rw [z3]; omega⟩
  · have := heap_alloc_new ((secsW w n).alloc (.map #[] 0)) (.cells (dvCells (newDv n) w.heap.size (w.heap.size + 1)) 87)
    rw [z2] at this
    exact this
  · rw [hl]
    exact (secsW_rows w n h2).same (a1 _ (by omega))
  · have h3 := CMap.made (secsW w n)
    rw [z1] at h3
    refine (h3.same (w' := newW w n) (Below.heap_alloc _ _ _ (by omega))).congr fun k _ => ?_
    unfold hdOf
    rw [if_pos (.inr rfl)]
theorem new_ok (n : Nat) (w : World) (h1 : 1 ≤ n) (h2 : n ≤ 4096) :
    Calls Tryz.prog 32 #[.int .i64 (n : Int)] w fun e w' => e = .returned (.tuple #[.pointer (some ⟨w.heap.size + 2, 0, none⟩), .int .i64 0]) ∧ DevAt w' (w.heap.size + 2) (newDv n) (fun k => w.heap.size ≤ k ∧ k < w.heap.size + 3) ∧ Below w.heap.size w w' := by
  have hm := make_secs w n h2
  have hmm := @run_makeMap Tryz.prog
  have h3 : decide ((n : Int) < 1) = false := by simp; omega
  have h4 : decide ((4096 : Int) < (n : Int)) = false := by simp; omega
  have HW := Lib.hid (newW_dev w n h1 h2)
  have z1 : (secsW w n).heap.size = w.heap.size + 1 := by simp [secsW]
  have hl : (newDv n).med.length = n := by simp [newDv]
  have HL := Lib.hid hl
  clear hl
  have e3 : Hid (newW w n = ((secsW w n).alloc (.map #[] 0)).alloc (.cells (dvCells (newDv n) w.heap.size (w.heap.size + 1)) 87)) := rfl
  have e4 : Hid (dvCells (newDv n) w.heap.size (w.heap.size + 1) = #[.slice (some ⟨w.heap.size, 0, none⟩) n n, .map (some (w.heap.size + 1)), .bool false, .bool false, .int .i64 0]) := by
    show dvCells _ _ _ = _
    unfold dvCells
    rw [HL.out]
    rfl
  go_enter Tryz.func32, Tryz.ntmps32
  go_wp2
  go_ret2
  rw [← e4.out, ← e3.out]
  exact ⟨rfl, HW.out⟩
end Go.Proofs.YtlhnmcopioeboaaGreat

/- vdev.New: the groups are cloned; a pool grows device by device. -/
namespace Go.Proofs.YtlhnmcopioeboaaGreat
set_option maxRecDepth 100000
open Go.RowKit Go.Maps M

def flatG (l : List (Int × Int)) : List Value := l.flatMap fun p => [.int .i64 p.1, .int .i64 p.2]
theorem flatG_len (l : List (Int × Int)) : (flatG l).length = l.length * 2 := by
  induction l with
  | nil => rfl
  | cons p r ih => simp only [flatG, List.flatMap_cons, List.length_append, List.length_cons, List.length_nil] at ih ⊢; omega
theorem flatG_at (l : List (Int × Int)) (i : Nat) (hi : i < l.length) (j : Nat) (hj : j < 2) : (flatG l)[i * 2 + j]? = ([Value.int .i64 l[i].1, .int .i64 l[i].2])[j]? := by
  induction l generalizing i with
  | nil => simp at hi
  | cons s r ih =>
    cases i with
    | zero =>
      simp only [flatG, List.flatMap_cons, List.getElem_cons_zero, Nat.zero_mul, Nat.zero_add]
      rw [List.getElem?_append_left (by simpa using hj)]
    | succ i =>
      simp only [flatG, List.flatMap_cons, List.getElem_cons_succ]
      rw [List.getElem?_append_right (by simp; omega), show (i + 1) * 2 + j - ([Value.int .i64 s.1, .int .i64 s.2]).length = i * 2 + j by simp; omega]
      exact ih i (by simpa using hi)
theorem flatG_one (l : List (Int × Int)) : ∀ v ∈ flatG l, v.oneCell' = true := by
  intro v hv
  obtain ⟨s, _, h⟩ := List.mem_flatMap.1 hv
  simp at h
  rcases h with rfl | rfl <;> rfl
theorem info_grp : ∃ i, Tryz.prog.info? 52 = some i ∧ i.zero = some (.agg #[.int .i64 0, .int .i64 0]) ∧ i.size = 2 ∧ i.bytes = 16 := info_parts (by kernel_rfl)
theorem grp_nil (w : World) (a : Addr) (n c : Nat) : (binOp .eql 22 (.slice (some a) n c) (.slice none 0 0)).run Tryz.prog w = .ok (.bool false) w := by kernel_rfl

theorem clone_grp (l : List (Int × Int)) (g o n c : Nat) (w : World) (h : Grps w (some ⟨g, o, none⟩) n l) (h0 : 0 < n) (hm : n ≤ 4) :
    Calls Tryz.prog 31 #[.slice (some ⟨g, o, none⟩) n c] w fun e w' => ∃ g' c', e = .returned (.slice (some ⟨g', 0, none⟩) n c') ∧ w.heap.size ≤ g' ∧ New w.heap.size w' (fun w => Grps w (some ⟨g', 0, none⟩) n l) ∧ Below w.heap.size w w' := by
  have hq := grp_nil w ⟨g, o, none⟩ n c
  obtain ⟨i, hi, hz, hsz, hb⟩ := info_grp
  have HG := Lib.hid h
  have hl := h.2.1
  have hcell : ∀ j u, (flatG l)[j]? = some u → (w.alloc (.cells #[] 52)).cell? ((⟨g, o, none⟩ : Addr).add j) = some u := fun j u hj => by
    have hlt : j < l.length * 2 := by rw [← flatG_len]; exact (List.getElem?_eq_some_iff.1 hj).1
    obtain ⟨g', o', ha, hx⟩ := h.2.2 (j / 2) (by omega)
    simp only [Option.some.injEq, Addr.mk.injEq, and_true] at ha
    obtain ⟨rfl, rfl⟩ := ha
    have hx' := hx.below (boxed w (.cells #[] 52))
    have e := flatG_at l (j / 2) (by omega) (j % 2) (Nat.mod_lt _ (by decide))
    rw [show j / 2 * 2 + j % 2 = j by omega, hj] at e
    rw [Go.WideShapes.add_plain, e]
    rcases Nat.mod_two_eq_zero_or_one j with e2 | e2
    · rw [e2, show o + j = o + j / 2 * 2 by omega, hx'.c0]; rfl
    · rw [e2, show o + j = o + j / 2 * 2 + 1 by omega, hx'.c1]; rfl
  have HC := Lib.hid hcell
  have hown : (w.alloc (.cells #[] 52)).ownsRow w.heap.size 52 2 (.slice (some ⟨w.heap.size, 0, none⟩) 0 0) 0 [] := by
    have := World.ownsRow_lit (base := w.heap.size) (e := 52) (size := 2) w #[] 0 (Nat.le_refl _) (by decide) (by simp)
    simpa using this
  have HO := Lib.hid hown
  have HL := Lib.hid hl
  clear h hcell hown hl
  go_enter Tryz.func31, Tryz.ntmps31
  go_wp2_with (at_builtin; refine wpList_append_own_at _ rfl _ _ _ rfl w.heap.size 52 i _ 2 16 Tryz.underlying22 hi hz hsz hb rfl (by decide) _ 0 [] rfl HO.out ⟨g, o, none⟩ n c (flatG l) rfl (by rw [flatG_len, HL.out]) HC.out (flatG_one l) (by unfold maxLen; omega) (by omega) (by simp) ?_; intro v4 w4 hO4 hg4 _ _)
  have hb4 : Below w.heap.size w w4 := (boxed w _).trans ((Below.refl w.heap.size _).grown hg4 (by simp) fun k hk => (World.ownsRow.lt HO.out k hk).1)
  have HB4 := Lib.hid hb4
  rw [Nat.zero_add, List.nil_append] at hO4
  have hcl := fun g hg => World.ownsRow.cells (g := g) hO4 hg
  rcases hO4.2 with ⟨_, hn0⟩ | ⟨g', cap, cur, rfl, hgB, hgh, hnc, _⟩
  · omega
  · have hcl := hcl g' rfl
    have HN : Hid (New w.heap.size w4 (fun w => Grps w (some ⟨g', 0, none⟩) n l)) := Lib.hid fun w' hz hbk => by
      obtain ⟨g1, g2, g3⟩ := HG.out
      have hlt := (Array.getElem?_eq_some_iff.1 hgh).1
      have hc : ∀ j u, (flatG l)[j]? = some u → w'.cell? ⟨g', j, none⟩ = some u := fun j u hj => by
        have := hcl j u hj
        rw [Go.WideShapes.add_plain, Nat.zero_add] at this
        rw [World.cell?_of_block (w := w4) (hbk g' hgB hlt)]
        exact this
      refine ⟨g1, g2, fun i hi => ?_⟩
      obtain ⟨_, _, _, hx⟩ := g3 i hi
      refine ⟨g', 0, rfl, Nat.lt_of_lt_of_le hlt hz, ?_, ?_, hx.k0, hx.k1, hx.w0, hx.w1⟩
      · have := flatG_at l i hi 0 (by omega)
        rw [Nat.add_zero] at this
        rw [Nat.zero_add]
        exact hc _ _ this
      · have := flatG_at l i hi 1 (by omega)
        rw [Nat.zero_add]
        exact hc _ _ this
    have HGB := Lib.hid hgB
    clear hcl hO4 hgh hg4 hb4
    go_wp2
    go_ret
    exact ⟨_, _, rfl, HGB.out, HN.out, HB4.out⟩

/-- A pool's next device. -/
theorem StG.grow {m : Nat} {X : Nat → Prop} {B : Nat} {w w' : World} {x : Px} {l : List (Int × Int)} {ds : Nat → Dv} {aw : Nat → Bool} {K : Nat} {P : World → Prop} (h : StG m X B w x l ds aw K P) (hb : Below w.heap.size w w') {b : Nat} {S : Dv} {f : Nat → Prop} (hd : DevAt w' b S f) (hf : ∀ k, f k → w.heap.size ≤ k)
    {u : Value} (hc : w'.cell? ⟨x.lb, m, none⟩ = some u) (hz : w'.frozen? ⟨x.lb, m, none⟩ = false) (hg : DGood x.sc K S) :
    StG (m + 1) X B (w'.setCell ⟨x.lb, m, none⟩ (.pointer (some ⟨b, 0, none⟩))) x l (upd ds m S) aw K P := by
  have hB := h.lt.2
  have h' := h.below hb
  obtain ⟨fp, F, bs, h⟩ := h
  have hF : ∀ i k, i < m → F i k → k < w.heap.size := fun i k hi hk => h.lt k (h.fpF i k hi hk)
  have hfl : ∀ k, f k → k < w'.heap.size := fun k hk => by
    obtain ⟨_, _, _, _, hin⟩ := hd
    exact hin.lt k hk
  have hlb : x.lb < w.heap.size := h.lt _ h.fpl
  have hab : x.ab < w.heap.size := h.lt _ h.fpa
  have ho : ∀ k, k ≠ x.lb → (w'.setCell ⟨x.lb, m, none⟩ (.pointer (some ⟨b, 0, none⟩))).heap[k]? = w'.heap[k]? := fun k hk => Below.heap_setCell _ _ _ _ hk
  have hsz : (w'.setCell ⟨x.lb, m, none⟩ (.pointer (some ⟨b, 0, none⟩))).heap.size = w'.heap.size := by simp [World.setCell]
  have hle := hb.size
  have t : Turn fp w (w'.setCell ⟨x.lb, m, none⟩ (.pointer (some ⟨b, 0, none⟩))) := (Turn.of_below (fp := fp) hb).setCell (.inl h.fpl) _
  refine ⟨fun k => fp k ∨ f k, upd F m f, upd bs m b, ⟨?_, (h.awy.same (hb.block _ hab)).same (ho _ h.lbab.symm), fun j hj => ?_, fun j hj => ?_, ?_, fun j hj => ?_, fun j hj => ?_, h.lbab, fun j k hj hk => ?_, .inl h.fpl, .inl h.fpa, fun k hk => ?_, fun k hk => ?_, fun k hk => .inl (h.xfp k hk), fun j k hj hk => ?_, h.xl, h.xa, h.keep.turn (t.mono fun _ hk => .inl hk) fun k hk => ?_⟩⟩
  · refine ⟨fun i hi => ?_, fun i hi => ?_⟩
    · by_cases e : i = m
      · subst e
        rw [World.cell?_setCell_same _ _ _ hc, upd_same]
      · rw [World.cell?_setCell_other _ _ _ _ (by intro h; apply e; cases h; rfl), upd_other _ _ e, (h.ptr.same (hb.block _ hlb)).c i (by omega)]
    · rw [World.frozen?_setCell]
      by_cases e : i = m
      · subst e; exact hz
      · exact (h.ptr.same (hb.block _ hlb)).fz i (by omega)
  · by_cases e : j = m
    · subst e
      rw [upd_same, upd_same, upd_same]
      exact hd.same (by rw [hsz]; exact Nat.le_refl _) fun k hk => ho k fun e => by have := hf k hk; omega
    · rw [upd_other _ _ e, upd_other _ _ e, upd_other _ _ e]
      exact (h.dev j (by omega)).same (by rw [hsz]; exact hle) fun k hk => (ho k fun e2 => h.lbF j (by omega) (e2 ▸ hk)).trans (hb.block k (hF j k (by omega) hk))
  · by_cases e : j = m
    · subst e; rw [upd_same]; exact hg
    · rw [upd_other _ _ e]; exact h.good j (by omega)
  · intro a c k ha hc h1 h2
    by_cases ea : a = m
    · by_cases ec : c = m
      · rw [ea, ec]
      · subst ea
        rw [upd_same] at h1
        rw [upd_other _ _ ec] at h2
        have := hf k h1
        have := hF c k (by omega) h2
        omega
    · rw [upd_other _ _ ea] at h1
      by_cases ec : c = m
      · subst ec
        rw [upd_same] at h2
        have := hf k h2
        have := hF a k (by omega) h1
        omega
      · rw [upd_other _ _ ec] at h2
        exact h.apart a c k (by omega) (by omega) h1 h2
  · by_cases e : j = m
    · subst e; rw [upd_same]; intro e2; have := hf _ e2; omega
    · rw [upd_other _ _ e]; exact h.lbF j (by omega)
  · by_cases e : j = m
    · subst e; rw [upd_same]; intro e2; have := hf _ e2; omega
    · rw [upd_other _ _ e]; exact h.abF j (by omega)
  · by_cases e : j = m
    · subst e; rw [upd_same] at hk; exact .inr hk
    · rw [upd_other _ _ e] at hk; exact .inl (h.fpF j k (by omega) hk)
  · rw [hsz]
    rcases hk with hk | hk
    · exact Nat.lt_of_lt_of_le (h.lt k hk) hle
    · exact hfl k hk
  · rcases hk with hk | hk
    · exact h.ge k hk
    · have := hf k hk; omega
  · by_cases e : j = m
    · subst e; rw [upd_same]; intro e2; have := hf _ e2; have := h.lt _ (h.xfp k hk); omega
    · rw [upd_other _ _ e]; exact h.xF j k (by omega) hk
  · rcases hk with (hk | hk) | hk
    · exact .inl (.inl hk)
    · exact .inr (hf k hk)
    · exact .inl (.inr hk)
/-- A pool of no devices yet. -/
theorem StG.start {X : Nat → Prop} {B : Nat} {w : World} {x : Px} {l : List (Int × Int)} {ds : Nat → Dv} {aw : Nat → Bool} {P : World → Prop} (hA : RowV w x.ab x.n (fun i => .bool (aw i))) (hne : x.lb ≠ x.ab) (l1 : x.lb < w.heap.size) (l2 : x.ab < w.heap.size) (g1 : B ≤ x.lb) (g2 : B ≤ x.ab)
    (xl : ¬ X x.lb) (xa : ¬ X x.ab) (xlt : ∀ k, X k → k < w.heap.size) (xge : ∀ k, X k → B ≤ k) (hk : Keep (fun k => (k = x.lb ∨ k = x.ab ∨ X k) ∨ k < B) w (fun w => Meas w x.g l x.sc ∧ P w)) : StG 0 X B w x l ds aw 0 P :=
  ⟨fun k => k = x.lb ∨ k = x.ab ∨ X k, fun _ _ => False, fun _ => 0, ⟨⟨fun i hi => absurd hi (Nat.not_lt_zero _), fun i hi => absurd hi (Nat.not_lt_zero _)⟩, hA, fun i hi => absurd hi (Nat.not_lt_zero _), fun i hi => absurd hi (Nat.not_lt_zero _), fun i _ _ hi => absurd hi (Nat.not_lt_zero _), fun i hi => absurd hi (Nat.not_lt_zero _), fun i hi => absurd hi (Nat.not_lt_zero _), hne, fun i _ hi => absurd hi (Nat.not_lt_zero _), .inl rfl, .inr (.inl rfl),
    fun k hk => by rcases hk with rfl | rfl | hk; exact l1; exact l2; exact xlt k hk, fun k hk => by rcases hk with rfl | rfl | hk; exact g1; exact g2; exact xge k hk, fun k hk => .inr (.inr hk), fun i _ hi => absurd hi (Nat.not_lt_zero _), xl, xa, hk⟩⟩
end Go.Proofs.YtlhnmcopioeboaaGreat

/- vdev.New: the walk. -/
namespace Go.Proofs.YtlhnmcopioeboaaGreat
set_option maxRecDepth 100000
open Go.RowKit Go.Maps M

def ptrsO (n : Nat) : Obj := .cells (madeCells #[.pointer none] n) 54
def marksO (n : Nat) : Obj := .cells (madeCells #[.bool false] n) 4
theorem make_ptrs (w : World) (n : Nat) (hn : n ≤ 4096) : (Instr.makeSlice 29 (.int .i64 (n : Int)) (.int .i64 (n : Int))).run Tryz.prog w = .ok (.slice (some ⟨w.heap.size, 0, none⟩) n n) (w.alloc (ptrsO n)) := by
  obtain ⟨i, hi, hz, hs, hb⟩ := info_parts (P := Tryz.prog) (e := 54) (z := .pointer none) (size := 1) (bytes := 8) (by kernel_rfl)
  have := run_make (P := Tryz.prog) w 29 54 i _ Tryz.underlying29 hi hz .i64 .i64 n n (by omega) (by omega) (by rw [hb]; omega) (by omega)
  rw [this, hs, Nat.mul_one]
  rfl
theorem make_marks (w : World) (n : Nat) (hn : n ≤ 4096) : (Instr.makeSlice 27 (.int .i64 (n : Int)) (.int .i64 (n : Int))).run Tryz.prog w = .ok (.slice (some ⟨w.heap.size, 0, none⟩) n n) (w.alloc (marksO n)) := by
  obtain ⟨i, hi, hz, hs, hb⟩ := info_parts (P := Tryz.prog) (e := 4) (z := .bool false) (size := 1) (bytes := 1) (by kernel_rfl)
  have := run_make (P := Tryz.prog) w 27 4 i _ Tryz.underlying27 hi hz .i64 .i64 n n (by omega) (by omega) (by rw [hb]; omega) (by omega)
  rw [this, hs, Nat.mul_one]
  rfl
/-- What a pool's measure, its slices and its box are, as far as they are made. -/
structure Prog (w4 : World) (l : List (Int × Int)) (gn N : Nat) (V : World) (lb ab : Option Nat) (gg : Option Nat) (bx : Option (Nat × Array Value)) : Prop where
  bel : Below w4.heap.size w4 V
  pl : ∀ b, lb = some b → V.heap[b]? = some (ptrsO N) ∧ w4.heap.size ≤ b
  pa : ∀ b, ab = some b → V.heap[b]? = some (marksO N) ∧ w4.heap.size ≤ b
  pg : ∀ p, gg = some p → Grps V (some ⟨p, 0, none⟩) gn l ∧ p < V.heap.size ∧ w4.heap.size ≤ p
  pb : ∀ p, bx = some p → V.heap[p.1]? = some (.cells p.2 31) ∧ w4.heap.size ≤ p.1
  nl : ∀ p b, gg = some p → lb = some b → p ≠ b
  na : ∀ p b, gg = some p → ab = some b → p ≠ b
  nb : ∀ p q, gg = some p → bx = some q → p ≠ q.1
theorem lt_of_some {V : World} {b : Nat} {o : Obj} (h : V.heap[b]? = some o) : b < V.heap.size := (Array.getElem?_eq_some_iff.1 h).1
section
variable {w4 V V' : World} {l : List (Int × Int)} {gn N : Nat} {lb ab : Option Nat} {gg : Option Nat} {bx : Option (Nat × Array Value)}
theorem Prog.next (h : Prog w4 l gn N V lb ab gg bx) (hb : Below V.heap.size V V') : Prog w4 l gn N V' lb ab gg bx :=
  ⟨Proofs.YtlhnmcopioeboaaGreat.next h.bel hb, fun b e => ⟨(hb.block b (lt_of_some (h.pl b e).1)).trans (h.pl b e).1, (h.pl b e).2⟩, fun b e => ⟨(hb.block b (lt_of_some (h.pa b e).1)).trans (h.pa b e).1, (h.pa b e).2⟩, fun p e => ⟨(h.pg p e).1.below hb, Nat.lt_of_lt_of_le (h.pg p e).2.1 hb.size, (h.pg p e).2.2⟩, fun p e => ⟨(hb.block p.1 (lt_of_some (h.pb p e).1)).trans (h.pb p e).1, (h.pb p e).2⟩, h.nl, h.na, h.nb⟩
theorem p_none (hb : Below w4.heap.size w4 V) : Prog w4 l gn N V none none none none := ⟨hb, (fun _ e => nomatch e), (fun _ e => nomatch e), (fun _ e => nomatch e), (fun _ e => nomatch e), (fun _ _ e => nomatch e), (fun _ _ e => nomatch e), (fun _ _ e => nomatch e)⟩
theorem p_drew (h : Prog w4 l gn N V lb ab gg bx) : Prog w4 l gn N V.drew lb ab gg bx := h.next (Below.refl _ V).drew
theorem p_ptrs (h : Prog w4 l gn N V none ab gg bx) : Prog w4 l gn N (V.alloc (ptrsO N)) (some V.heap.size) ab gg bx := by
  have h' := h.next (boxed V (ptrsO N))
  exact ⟨h'.bel, fun b e => by cases e; exact ⟨heap_alloc_new V _, h.bel.size⟩, h'.pa, h'.pg, h'.pb, fun p b e1 e2 => by cases e2; have := (h.pg p e1).2.1; omega, h.na, h.nb⟩
theorem p_marks (h : Prog w4 l gn N V lb none gg bx) : Prog w4 l gn N (V.alloc (marksO N)) lb (some V.heap.size) gg bx := by
  have h' := h.next (boxed V (marksO N))
  exact ⟨h'.bel, h'.pl, fun b e => by cases e; exact ⟨heap_alloc_new V _, h.bel.size⟩, h'.pg, h'.pb, h.nl, fun p b e1 e2 => by cases e2; have := (h.pg p e1).2.1; omega, h.nb⟩
theorem p_box {b : Nat} {cs : Array Value} (h : Prog w4 l gn N V lb ab gg none) (hb : b = V.heap.size) : Prog w4 l gn N (V.alloc (.cells cs 31)) lb ab gg (some (b, cs)) := by
  subst hb
  have h' := h.next (boxed V (.cells cs 31))
  exact ⟨h'.bel, h'.pl, h'.pa, h'.pg, fun p e => by cases e; exact ⟨heap_alloc_new V _, h.bel.size⟩, h.nl, h.na, fun p q e1 e2 => by cases e2; have := (h.pg p e1).2.1; show p ≠ V.heap.size; omega⟩
theorem p_clone {g' : Nat} (h : Prog w4 l gn N V lb ab none bx) (hb : Below V.heap.size V V') (hn : New V.heap.size V' (fun w => Grps w (some ⟨g', 0, none⟩) gn l)) (hg : V.heap.size ≤ g' ∧ g' < V'.heap.size) : Prog w4 l gn N V' lb ab (some g') bx := by
  have h' := h.next hb
  refine ⟨h'.bel, h'.pl, h'.pa, fun p e => by cases e; exact ⟨hn.out, hg.2, Nat.le_trans h.bel.size hg.1⟩, h'.pb, fun p b e1 e2 => ?_, fun p b e1 e2 => ?_, fun p q e1 e2 => ?_⟩
  · cases e1
    have := lt_of_some (h.pl b e2).1
    show g' ≠ b
    omega
  · cases e1
    have := lt_of_some (h.pa b e2).1
    show g' ≠ b
    omega
  · cases e1
    have := lt_of_some (h.pb q e2).1
    show g' ≠ q.1
    omega
theorem p_sets {b : Nat} {v0 v1 v2 v3 : Value} (h : Prog w4 l gn N V lb ab gg (some (b, #[.slice none 0 0, .int .i64 0, .slice none 0 0, .slice none 0 0]))) : Prog w4 l gn N ((((V.setCell ⟨b, 0, none⟩ v0).setCell ⟨b, 1, none⟩ v1).setCell ⟨b, 2, none⟩ v2).setCell ⟨b, 3, none⟩ v3) lb ab gg (some (b, #[v0, v1, v2, v3])) := by
  obtain ⟨hb, hge⟩ := h.pb _ rfl
  have ho : ∀ k, k ≠ b → ((((V.setCell ⟨b, 0, none⟩ v0).setCell ⟨b, 1, none⟩ v1).setCell ⟨b, 2, none⟩ v2).setCell ⟨b, 3, none⟩ v3).heap[k]? = V.heap[k]? := fun k hk => by
    rw [Below.heap_setCell _ _ _ _ hk, Below.heap_setCell _ _ _ _ hk, Below.heap_setCell _ _ _ _ hk, Below.heap_setCell _ _ _ _ hk]
  have hz : ((((V.setCell ⟨b, 0, none⟩ v0).setCell ⟨b, 1, none⟩ v1).setCell ⟨b, 2, none⟩ v2).setCell ⟨b, 3, none⟩ v3).heap.size = V.heap.size := by simp [World.setCell]
  have hnew : ((((V.setCell ⟨b, 0, none⟩ v0).setCell ⟨b, 1, none⟩ v1).setCell ⟨b, 2, none⟩ v2).setCell ⟨b, 3, none⟩ v3).heap[b]? = some (.cells #[v0, v1, v2, v3] 31) := by
    simp only [World.setCell, Array.getElem?_modify, hb]
    simp
  refine ⟨grows_set (grows_set (grows_set (grows_set h.bel hge _) hge _) hge _) hge _, fun k e => ?_, fun k e => ?_, fun p e => ?_, fun p e => ?_, h.nl, h.na, fun p q e1 e2 => ?_⟩
  · obtain ⟨h1, h2⟩ := h.pl k e
    refine ⟨(ho k fun e2 => ?_).trans h1, h2⟩
    rw [e2, hb] at h1
    simp only [ptrsO, Option.some.injEq, Obj.cells.injEq] at h1
    exact absurd h1.2.1 (by decide)
  · obtain ⟨h1, h2⟩ := h.pa k e
    refine ⟨(ho k fun e2 => ?_).trans h1, h2⟩
    rw [e2, hb] at h1
    simp only [marksO, Option.some.injEq, Obj.cells.injEq] at h1
    exact absurd h1.2.1 (by decide)
  · obtain ⟨⟨g1, g2, g3⟩, h2⟩ := h.pg p e
    have hne : p ≠ b := h.nb p _ e rfl
    refine ⟨⟨g1, g2, fun i hi => ?_⟩, by rw [hz]; exact h2.1, h2.2⟩
    obtain ⟨g, o, ha, hx⟩ := g3 i hi
    have hg : g = p := by simp only [Option.some.injEq, Addr.mk.injEq, and_true] at ha; exact ha.1.symm
    have e2 : ∀ j, ((((V.setCell ⟨b, 0, none⟩ v0).setCell ⟨b, 1, none⟩ v1).setCell ⟨b, 2, none⟩ v2).setCell ⟨b, 3, none⟩ v3).cell? ⟨g, j, none⟩ = V.cell? ⟨g, j, none⟩ := fun j => World.cell?_of_block (ho g (by rw [hg]; exact hne))
    exact ⟨g, o, ha, by rw [hz]; exact hx.lt, (e2 _).trans hx.c0, (e2 _).trans hx.c1, hx.k0, hx.k1, hx.w0, hx.w1⟩
  · cases e
    exact ⟨hnew, hge⟩
  · cases e2
    show p ≠ b
    exact h.nb p (b, #[.slice none 0 0, .int .i64 0, .slice none 0 0, .slice none 0 0]) e1 rfl
end
theorem row_ptrs {V : World} {n g : Nat} (h : V.heap[g]? = some (ptrsO n)) : RowV V g n (fun _ => .pointer none) := by
  unfold ptrsO at h
  exact ⟨fun i hi => by simp [World.cell?, h, madeCells, hi, Nat.mod_one], fun i hi => by simp [World.frozen?, h]⟩
theorem row_marks {V : World} {n g : Nat} (h : V.heap[g]? = some (marksO n)) : RowV V g n (fun _ => .bool false) := by
  unfold marksO at h
  exact ⟨fun i hi => by simp [World.cell?, h, madeCells, hi, Nat.mod_one], fun i hi => by simp [World.frozen?, h]⟩
theorem sets4 {V : World} {b : Nat} {t : TypeId} {u0 u1 u2 u3 : Value} (v0 v1 v2 v3 : Value) (hb : V.heap[b]? = some (.cells #[u0, u1, u2, u3] t)) : ((((V.setCell ⟨b, 0, none⟩ v0).setCell ⟨b, 1, none⟩ v1).setCell ⟨b, 2, none⟩ v2).setCell ⟨b, 3, none⟩ v3).heap[b]? = some (.cells #[v0, v1, v2, v3] t) := by
  simp only [World.setCell, Array.getElem?_modify, hb]
  simp
theorem turn4 (V : World) (b : Nat) (v0 v1 v2 v3 : Value) : Turn (fun k => k = b) V ((((V.setCell ⟨b, 0, none⟩ v0).setCell ⟨b, 1, none⟩ v1).setCell ⟨b, 2, none⟩ v2).setCell ⟨b, 3, none⟩ v3) := by
  have h0 : Turn (fun k => k = b) V V := Turn.refl _ V
  have h1 := h0.setCell (p := ⟨b, 0, none⟩) (.inl rfl) v0
  have h2 := h1.setCell (p := ⟨b, 1, none⟩) (.inl rfl) v1
  have h3 := h2.setCell (p := ⟨b, 2, none⟩) (.inl rfl) v2
  exact h3.setCell (p := ⟨b, 3, none⟩) (.inl rfl) v3
/-- What New has made ahead of its devices. -/
def NewRel (w4 : World) (l : List (Int × Int)) (sc : Int) (gn N : Nat) (s7 : Value) (wc : World) : Prop :=
  ∃ bx lb ab g' c', s7 = .pointer (some ⟨bx, 0, none⟩) ∧ BoxX ⟨some ⟨g', 0, none⟩, gn, c', sc, lb, N, ab⟩ bx wc ∧ RowV wc lb N (fun _ => .pointer none) ∧ RowV wc ab N (fun _ => .bool false) ∧ Grps wc (some ⟨g', 0, none⟩) gn l ∧
    (lb ≠ ab ∧ bx ≠ lb ∧ bx ≠ ab ∧ g' ≠ lb ∧ g' ≠ ab ∧ w4.heap.size ≤ lb ∧ w4.heap.size ≤ ab ∧ w4.heap.size ≤ bx ∧ lb < wc.heap.size ∧ ab < wc.heap.size ∧ w4.heap.size ≤ g') ∧ Below w4.heap.size w4 wc
theorem prog_done {w4 V : World} {l : List (Int × Int)} {sc : Int} {gn N lb ab g' c' b : Nat} {v0 v1 v2 v3 s7 : Value} (h : Prog w4 l gn N V (some lb) (some ab) (some g') (some (b, #[v0, v1, v2, v3])))
    (e0 : v0 = .slice (some ⟨g', 0, none⟩) gn c') (e1 : v1 = .int .i64 sc) (e2 : v2 = .slice (some ⟨lb, 0, none⟩) N N) (e3 : v3 = .slice (some ⟨ab, 0, none⟩) N N) (e : s7 = .pointer (some ⟨b, 0, none⟩)) : NewRel w4 l sc gn N s7 V := by
  subst e0 e1 e2 e3 e
  obtain ⟨hl, hl'⟩ := h.pl _ rfl
  obtain ⟨ha, ha'⟩ := h.pa _ rfl
  obtain ⟨hg, hg'⟩ := h.pg _ rfl
  obtain ⟨hb, hb'⟩ := h.pb _ rfl
  refine ⟨b, lb, ab, g', c', rfl, ⟨by simp [World.cell?, hb], by simp [World.cell?, hb], by simp [World.cell?, hb], by simp [World.cell?, hb]⟩, row_ptrs hl, row_marks ha, hg, ⟨fun e => ?_, fun e => ?_, fun e => ?_, h.nl _ _ rfl rfl, h.na _ _ rfl rfl, hl', ha', hb', lt_of_some hl, lt_of_some ha, hg'.2⟩, h.bel⟩
  · rw [e, ha] at hl
    simp only [ptrsO, marksO, Option.some.injEq, Obj.cells.injEq] at hl
    exact absurd hl.2.1 (by decide)
  · subst e
    rw [hl] at hb
    simp only [ptrsO, Option.some.injEq, Obj.cells.injEq] at hb
    exact absurd hb.2.1 (by decide)
  · subst e
    rw [ha] at hb
    simp only [marksO, Option.some.injEq, Obj.cells.injEq] at hb
    exact absurd hb.2.1 (by decide)

end Go.Proofs.YtlhnmcopioeboaaGreat
