/-
  The document's Tries (polderref07): own slices of tries; what the tries are (plain facts).
-/
import Derived.Test.YtpalgadokdcgnaaRa
import Derived.Test.YtpalgadokdcgnaaKs
namespace Go.Proofs.Ytpalgadokdcgnaa
set_option maxRecDepth 100000
open Go.RowKit M

def cellsT (x : Int × ByteArray) : List Value := [.int .i64 x.1, .string x.2]
def flatT (l : List (Int × ByteArray)) : List Value := l.flatMap cellsT
theorem flatT_len (l : List (Int × ByteArray)) : (flatT l).length = l.length * 2 := by
  induction l with
  | nil => rfl
  | cons c r ih => simp only [flatT, List.flatMap_cons, List.length_append, List.length_cons] at ih ⊢; rw [ih]; simp [cellsT]; omega
theorem flatT_app (l m : List (Int × ByteArray)) : flatT (l ++ m) = flatT l ++ flatT m := by simp [flatT]
theorem flatT_at (l : List (Int × ByteArray)) (i : Nat) (hi : i < l.length) (j : Nat) (hj : j < 2) : (flatT l)[i * 2 + j]? = (cellsT l[i])[j]? := by
  induction l generalizing i with
  | nil => simp at hi
  | cons s r ih =>
    cases i with
    | zero =>
      simp only [flatT, List.flatMap_cons, List.getElem_cons_zero, Nat.zero_mul, Nat.zero_add]
      rw [List.getElem?_append_left (by simp [cellsT]; omega)]
    | succ i =>
      simp only [flatT, List.flatMap_cons, List.getElem_cons_succ]
      rw [List.getElem?_append_right (by simp [cellsT]; omega), show (cellsT s).length = 2 from rfl, show (i + 1) * 2 + j - 2 = i * 2 + j by omega]
      exact ih i (by simpa using hi)
theorem flatT_one (l : List (Int × ByteArray)) : ∀ v ∈ flatT l, v.oneCell' = true := by
  intro v hv
  obtain ⟨s, _, h⟩ := List.mem_flatMap.1 hv
  simp [cellsT] at h
  rcases h with rfl | rfl <;> rfl
/-- The slice v is the call's own, from block B on, and it is the tries l. -/
def OwnT (B : Nat) (w : World) (v : Value) (l : List (Int × ByteArray)) : Prop := w.ownsRow B 56 2 v l.length (flatT l)
theorem OwnT.nil (B : Nat) (w : World) : OwnT B w (.slice none 0 0) [] := World.ownsRow_nil _ _ _ _
theorem OwnT.below {w w' : World} {B : Nat} {v : Value} {l : List (Int × ByteArray)} (h : OwnT B w v l) (hb : Below w.heap.size w w') : OwnT B w' v l := by
  refine ⟨h.1, ?_⟩
  rcases h.2 with hn | ⟨g, cap, cur, rfl, hB, hg, rest⟩
  · exact .inl hn
  · exact .inr ⟨g, cap, cur, rfl, hB, by rw [hb.block g (Array.getElem?_eq_some_iff.1 hg).1]; exact hg, rest⟩
theorem OwnT.lower {w : World} {B B' : Nat} {v : Value} {l : List (Int × ByteArray)} (h : OwnT B w v l) (hB : B' ≤ B) : OwnT B' w v l := by
  refine ⟨h.1, ?_⟩
  rcases h.2 with hn | ⟨g, cap, cur, rfl, hB', hg, rest⟩
  · exact .inl hn
  · exact .inr ⟨g, cap, cur, rfl, Nat.le_trans hB hB', hg, rest⟩
theorem OwnT.isSl {w : World} {B : Nat} {v : Value} {l : List (Int × ByteArray)} (h : OwnT B w v l) : ∃ a c, v = .slice a l.length c := by
  rcases h.2 with ⟨rfl, h0⟩ | ⟨g, cap, cur, rfl, hB, hb, hnc, _⟩
  · exact ⟨_, _, by rw [h0]⟩
  · exact ⟨_, _, rfl⟩
/-- Where an own slice of tries lies. -/
theorem OwnT.at_ {w : World} {B : Nat} {v : Value} {l : List (Int × ByteArray)} (h : OwnT B w v l) (hl : 0 < l.length) :
    ∃ g c, v = .slice (some ⟨g, 0, none⟩) l.length c ∧ l.length ≤ c ∧ B ≤ g ∧ g < w.heap.size ∧ ∀ j (h : j < l.length), w.cell? ⟨g, j * 2, none⟩ = some (.int .i64 l[j].1) ∧ w.cell? ⟨g, j * 2 + 1, none⟩ = some (.string l[j].2) := by
  have hcells := fun g hg => World.ownsRow.cells (g := g) h hg
  rcases h.2 with ⟨_, h0⟩ | ⟨g, cap, cur, rfl, hB, hb, hnc, _⟩
  · omega
  · refine ⟨g, cap, rfl, hnc, hB, (Array.getElem?_eq_some_iff.1 hb).1, fun j hj => ⟨?_, ?_⟩⟩
    · have e := hcells g rfl (j * 2 + 0) _ ((flatT_at l j hj 0 (by decide)).trans (show (cellsT l[j])[0]? = some (.int .i64 l[j].1) from rfl))
      rwa [Go.WideShapes.add_plain, Nat.zero_add] at e
    · have e := hcells g rfl (j * 2 + 1) _ ((flatT_at l j hj 1 (by decide)).trans (show (cellsT l[j])[1]? = some (.string l[j].2) from rfl))
      rwa [Go.WideShapes.add_plain, Nat.zero_add] at e
theorem info_try : ∃ i, Try.prog.info? 56 = some i ∧ i.zero = some (.agg #[.int .i64 0, .string ⟨#[]⟩]) ∧ i.size = 2 ∧ i.bytes = 24 := info_parts (by kernel_rfl)
/-- append(v, x). -/
theorem wpList_append_try {ops : Array Oper} {rest : List Oper} {o : Oper} {a : Act} {Q : Exit → Act → World → Prop} (w : World) (hgd : o.guard = none) (s x : Operand)
    (ho : o.op = .call { callee := .builtin .append, args := #[s, x], argTypes := #[53, 53] }) (B : Nat) (v : Value) (l : List (Int × ByteArray)) (y : Int × ByteArray) (g c' : Nat) (hs : a.eval s = v) (hx : a.eval x = .slice (some ⟨g, 0, none⟩) 1 c')
    (hv : OwnT B w v l) (hc0 : w.cell? ⟨g, 0, none⟩ = some (.int .i64 y.1)) (hc1 : w.cell? ⟨g, 1, none⟩ = some (.string y.2)) (hB : B ≤ w.heap.size) (hN : l.length ≤ 100000)
    (h : ∀ v' w', OwnT B w' v' (l ++ [y]) → Below B w w' → w.heap.size ≤ w'.heap.size → wpList Try.prog ops Q rest (a.put o.dst v') w') : wpList Try.prog ops Q (o :: rest) a w := by
  obtain ⟨i, hi, hz, hsz, hb⟩ := info_try
  refine wpList_append_own_at w hgd s x _ ho B 56 i _ 2 24 Try.underlying53 hi hz hsz hb rfl (by decide) v l.length (flatT l) hs hv ⟨g, 0, none⟩ 1 c' (cellsT y) hx rfl (fun j u hj => ?_) (fun u hu => ?_) (by unfold maxLen; omega) (by omega) hB fun v' w' h1 h2 _ _ => ?_
  · have hlt : j < 2 := (List.getElem?_eq_some_iff.1 hj).1
    rw [Go.WideShapes.add_plain, ← hj, Nat.zero_add]
    match j, hlt with
    | 0, _ => exact hc0
    | 1, _ => exact hc1
  · exact flatT_one [y] u (by simpa [flatT] using hu)
  · refine h v' w' ?_ ((Below.refl B w).grown h2 hB fun k hk => (World.ownsRow.lt hv k hk).1) h2.size
    unfold OwnT
    rw [List.length_append, flatT_app]
    have e : flatT [y] = cellsT y := by simp [flatT]
    rw [e]
    exact h1

/-- Does a column count for device d? (p: a Parity) -/
def clQ (p : Bool) (L : List C) (d : Int) (j : Nat) : Bool := !parAt L j && (p || devAt L j == d)
def eltR (p : Bool) (L : List C) (G : List ByteArray) (d : Int) (j : Nat) : ByteArray := if p && (devAt L j == d) then agn L G j else G.getD j ⟨#[]⟩
/-- What the columns among the first i come to for device d. -/
def clT (p : Bool) (L : List C) (G : List ByteArray) (d : Int) (i : Nat) : List ByteArray := (idx (clQ p L d) i).map (eltR p L G d)
/-- Has device d data among the first i columns? -/
def owT (L : List C) (d : Int) (i : Nat) : Bool := (List.range i).any fun j => !parAt L j && devAt L j == d
theorem owT_succ (L : List C) (d : Int) (i : Nat) : owT L d (i + 1) = (owT L d i || (!parAt L i && devAt L i == d)) := by unfold owT; rw [List.range_succ, List.any_append]; simp
theorem clT_no {p : Bool} {L : List C} {G : List ByteArray} {d : Int} {i : Nat} (h : clQ p L d i = false) : clT p L G d (i + 1) = clT p L G d i := by unfold clT; rw [idx_no h]
theorem clT_yes {p : Bool} {L : List C} {G : List ByteArray} {d : Int} {i : Nat} (h : clQ p L d i = true) : clT p L G d (i + 1) = clT p L G d i ++ [eltR p L G d i] := by unfold clT; rw [idx_yes h, List.map_append]; rfl
theorem hole_snoc (l : List ByteArray) (x : ByteArray) : holeL (l ++ [x]) = (holeL l || x.size == 0) := by unfold holeL; simp
/-- The others of column i's row, among the first j columns. -/
def othTo (L : List C) (G : List ByteArray) (i j : Nat) : List ByteArray := (idx (fun p => (p != i) && rowAt L p == rowAt L i) j).map fun p => G.getD p ⟨#[]⟩
theorem oth_yes {L : List C} {G : List ByteArray} {i j : Nat} (h : ((j != i) && rowAt L j == rowAt L i) = true) : othTo L G i (j + 1) = othTo L G i j ++ [G.getD j ⟨#[]⟩] := by unfold othTo; rw [idx_yes h, List.map_append]; rfl
theorem oth_no {L : List C} {G : List ByteArray} {i j : Nat} (h : ((j != i) && rowAt L j == rowAt L i) = false) : othTo L G i (j + 1) = othTo L G i j := by unfold othTo; rw [idx_no h]
theorem oth_len (L : List C) (G : List ByteArray) (i j : Nat) : (othTo L G i j).length ≤ j := by unfold othTo; rw [List.length_map]; exact idx_le _ _
theorem oth_idx {L : List C} {i : Nat} : ∀ n, i < n → ∀ r, idx (fun p => rowAt L p == rowAt L i) n = idx (fun p => rowAt L p == rowAt L i) i ++ i :: r → (∀ j ∈ r, i < j) → idx (fun p => (p != i) && rowAt L p == rowAt L i) n = idx (fun p => rowAt L p == rowAt L i) i ++ r := by
  intro n _ r hr hm
  have e1 : idx (fun p => (p != i) && rowAt L p == rowAt L i) n = (idx (fun p => rowAt L p == rowAt L i) n).filter fun p => p != i := by
    unfold idx
    rw [List.filter_filter]
  rw [e1, hr, List.filter_append, List.filter_cons]
  have h1 : (idx (fun p => rowAt L p == rowAt L i) i).filter (fun p => p != i) = idx (fun p => rowAt L p == rowAt L i) i := List.filter_eq_self.2 fun x hx => by have := (idx_mem.1 hx).1; simp; omega
  have h2 : r.filter (fun p => p != i) = r := List.filter_eq_self.2 fun x hx => by have := hm x hx; simp; omega
  rw [h1, h2]
  simp
theorem oth_agn {L : List C} {G : List ByteArray} {i : Nat} (hi : i < L.length) : agn L G i = mkB (othTo L G i L.length) := by
  obtain ⟨r, hr, hm⟩ := idx_split (q := fun j => rowAt L j == rowAt L i) (a := i) (by simp) L.length hi
  unfold agn rowG othTo
  rw [oth_idx L.length hi r hr fun j hj => (hm j hj).1, hr, List.length_map, List.map_append, List.map_cons, List.eraseIdx_append_of_length_le (by simp), List.length_map, Nat.sub_self, List.eraseIdx_zero, List.tail_cons, List.map_append]
theorem oth_ne {L : List C} {G : List ByteArray} {i : Nat} (hi : i < L.length) (h2 : 2 ≤ (idx (fun j => rowAt L j == rowAt L i) L.length).length) : othTo L G i L.length ≠ [] := by
  obtain ⟨r, hr, hm⟩ := idx_split (q := fun j => rowAt L j == rowAt L i) (a := i) (by simp) L.length hi
  unfold othTo
  rw [oth_idx L.length hi r hr fun j hj => (hm j hj).1]
  intro e
  have e' := List.map_eq_nil_iff.1 e
  obtain ⟨e1, e2⟩ := List.append_eq_nil_iff.1 e'
  rw [hr, e1, e2] at h2
  simp at h2

theorem fm_congr {α β : Type} {f g : α → Option β} : ∀ {l : List α}, (∀ x ∈ l, f x = g x) → l.filterMap f = l.filterMap g
  | [], _ => rfl
  | x :: r, h => by
    rw [List.filterMap_cons, List.filterMap_cons, h x List.mem_cons_self, fm_congr fun y hy => h y (List.mem_cons_of_mem _ hy)]
theorem idx_congr {q q' : Nat → Bool} {n : Nat} (h : ∀ j, j < n → q j = q' j) : idx q n = idx q' n := by
  unfold idx
  exact List.filter_congr fun j hj => h j (List.mem_range.1 hj)
theorem idx_block (z e : Nat) (hz : 0 < z) : ∀ u, idx (fun j => j / z == e) (u * z) = if e < u then (List.range z).map (e * z + ·) else [] := by
  intro u
  induction u with
  | zero => simp [idx]
  | succ u ih =>
    unfold idx at ih ⊢
    rw [Nat.succ_mul, List.range_add, List.filter_append, ih, List.filter_map]
    have hdiv : ∀ i, i < z → (u * z + i) / z = u := fun i hi => by rw [Nat.add_comm, Nat.add_mul_div_right _ _ hz, Nat.div_eq_of_lt hi, Nat.zero_add]
    by_cases h : e = u
    · subst h
      rw [if_neg (by omega), if_pos (by omega), List.nil_append]
      congr 1
      refine List.filter_eq_self.2 fun i hi => ?_
      show ((e * z + i) / z == e) = true
      rw [hdiv i (List.mem_range.1 hi)]
      simp
    · have hf : (List.range z).filter ((fun j => j / z == e) ∘ fun x => u * z + x) = [] := List.filter_eq_nil_iff.2 fun i hi => by
        show ¬ ((u * z + i) / z == e) = true
        rw [hdiv i (List.mem_range.1 hi)]
        simp
        exact fun e' => h e'.symm
      rw [hf, List.map_nil, List.append_nil]
      by_cases h2 : e < u
      · rw [if_pos h2, if_pos (by omega)]
      · rw [if_neg h2, if_neg (by omega)]
/-- The e-th device of the document's loop: what comes. -/
def entR (p : Bool) (fst kk : Int) (L : List C) (G : List ByteArray) (e : Nat) : Option (Int × ByteArray) :=
  if (decide (fst - kk + e < fst) || owT L (fst - kk + e) L.length) && !holeL (clT p L G (fst - kk + e) L.length) then some (if fst - kk + e < fst then -1 else fst - kk + e, joinB (clT p L G (fst - kk + e) L.length)) else none
section
variable {l : List (Int × Int)} {sc : Int} {k t z : Nat} {s : ByteArray} {kk : Int} {u : Nat} {L : List C} {f : Nat → ByteArray}
theorem clT_wth (L : List C) (G : List ByteArray) (d : Int) : clT true L G d L.length = wth L G d L.length := by
  unfold clT wth
  have e : idx (clQ true L d) L.length = idx (fun j => !parAt L j) L.length := idx_congr fun j _ => by unfold clQ; simp
  rw [e]
  apply List.map_congr_left
  intro j _
  unfold eltR
  by_cases h : devAt L j = d
  · rw [if_pos h, if_pos (by simp [h])]
  · rw [if_neg h, if_neg (by simp [h])]
theorem owT_iff {d : Int} : owT L d L.length = true ↔ ∃ j, j < L.length ∧ parAt L j = false ∧ devAt L j = d := by
  unfold owT
  rw [List.any_eq_true]
  constructor
  · rintro ⟨j, hj, h⟩
    rw [Bool.and_eq_true] at h
    exact ⟨j, List.mem_range.1 hj, by simpa using h.1, by simpa using h.2⟩
  · rintro ⟨j, hj, h1, h2⟩
    exact ⟨j, List.mem_range.2 hj, by simp [h1, h2]⟩
theorem Enc7.dev_in (h : Enc7 l sc k t z s kk u L f) {j : Nat} (hj : j < L.length) : aheadL l k ≤ devAt L j ∧ devAt L j < aheadL l k + u := by
  have hL := h.hL
  have h0 := h.blk.laid.dev0
  have h1 := h.blk.laid.dev1
  rw [hL] at h0 h1
  have hk := h.blk.hk
  have hlk : l[k] = (kk, (u : Int)) := by rw [← getD_at hk]; exact h.kind.grp
  rw [hlk] at h1
  rw [devAt_eq hj]
  exact ⟨h0 j hj, h1 j hj⟩
theorem Enc7.refTries (h : Enc7 l sc k t z s kk u L f) {G : List ByteArray} (hG : G.length = L.length) : (List.range (kk.toNat + u)).filterMap (entR (kk == 1) (aheadL l k) kk L G) = triesB l k t z G := by
  unfold triesB
  rw [h.kind.grp, h.hL]
  have hz := h.blk.z1
  rcases h.kind.ok with h0 | h1
  · obtain ⟨_, hl, _⟩ := h.mir h0.1
    have hk0 := h0.1
    rw [hk0, if_pos rfl]
    show (List.range (0 + u)).filterMap (entR false (aheadL l k) 0 L G) = triesM L G (u : Int).toNat z
    rw [Nat.zero_add, Int.toNat_natCast]
    unfold triesM
    apply fm_congr
    intro e he
    have he := List.mem_range.1 he
    have hb : e * z + z ≤ u * z := by rw [← Nat.succ_mul]; exact Nat.mul_le_mul_right _ he
    have hcl : clT false L G (aheadL l k - 0 + e) L.length = chunk G z e := by
      unfold clT
      have hi : idx (clQ false L (aheadL l k - 0 + e)) L.length = (List.range z).map (e * z + ·) := by
        rw [idx_congr (q' := fun j => j / z == e) fun j hj => by
          unfold clQ
          rw [h.noPar hk0 hj, h.devM hk0 hj]
          rw [Bool.eq_iff_iff]
          simp
          omega]
        rw [hl, idx_block z e hz u, if_pos he]
      rw [hi, chunk_map (by rw [hG, hl]) he, List.map_map]
      apply List.map_congr_left
      intro i _
      rfl
    have hdv : devAt L (e * z) = aheadL l k - 0 + e := by rw [h.devM hk0 (by rw [hl]; omega), Nat.mul_div_cancel _ hz]; omega
    have hown : owT L (aheadL l k - 0 + e) L.length = true := owT_iff.2 ⟨e * z, by rw [hl]; omega, h.noPar hk0 (by rw [hl]; omega), hdv⟩
    unfold entR tryOf
    rw [hcl, hown, hdv, if_neg (show ¬ aheadL l k - 0 + (e : Int) < aheadL l k by omega)]
    cases holeL (chunk G z e) <;> simp
  · have hk1 := h1.1
    rw [hk1, if_neg Int.one_ne_zero]
    show (List.range (1 + u)).filterMap (entR true (aheadL l k) 1 L G) = _
    rw [Nat.add_comm, List.range_succ_eq_map, List.filterMap_cons]
    have hw0 : wth L G (aheadL l k - 1) L.length = wth L G (-1) L.length := by
      unfold wth
      apply List.map_congr_left
      intro j hj
      have hj := (idx_mem.1 hj).1
      have hd := h.dev_in hj
      have h0 := h.blk.dev j (by rw [h.hL]; exact hj)
      have hL := h.hL
      subst hL
      rw [if_neg (by omega), if_neg (by rw [devAt_eq hj]; omega)]
    have he0 : entR true (aheadL l k) 1 L G 0 = tryOf (-1) (wth L G (-1) L.length) := by
      unfold entR tryOf
      have e1 : aheadL l k - 1 + ((0 : Nat) : Int) = aheadL l k - 1 := by simp
      rw [e1, clT_wth, hw0, decide_eq_true (by omega), if_pos (show aheadL l k - 1 < aheadL l k by omega)]
      cases holeL (wth L G (-1) L.length) <;> simp
    have hrest : ((List.range u).map Nat.succ).filterMap (entR true (aheadL l k) 1 L G) = (devsS ((datL L).map C.dev)).filterMap fun d => tryOf d (wth L G d L.length) := by
      have hdv : devsS ((datL L).map C.dev) = ((List.range u).map fun e : Nat => aheadL l k + (e : Int)).filter fun d => owT L d L.length := by
        refine lt_ext _ _ (devsS_spec _).1 (List.Pairwise.filter _ ?_) fun x => ?_
        · rw [List.pairwise_map]
          exact (List.pairwise_lt_range).imp fun hab => by omega
        · rw [(devsS_spec _).2, List.mem_filter, owT_iff, List.mem_map, List.mem_map]
          constructor
          · rintro ⟨c, hc, rfl⟩
            unfold datL at hc
            rw [List.mem_filter] at hc
            obtain ⟨j, hj, rfl⟩ := List.getElem_of_mem hc.1
            have hd := h.dev_in hj
            rw [devAt_eq hj] at hd
            refine ⟨⟨(L[j].dev - aheadL l k).toNat, List.mem_range.2 (by omega), by omega⟩, j, hj, by rw [parAt_eq hj]; simpa using hc.2, devAt_eq hj⟩
          · rintro ⟨_, j, hj, hp, hd⟩
            refine ⟨L[j], ?_, by rw [← devAt_eq hj]; exact hd⟩
            unfold datL
            rw [List.mem_filter]
            exact ⟨List.getElem_mem _, by rw [← parAt_eq hj, hp]; rfl⟩
      rw [hdv, List.filterMap_filter, List.filterMap_map, List.filterMap_map]
      apply fm_congr
      intro e _
      show entR true (aheadL l k) 1 L G (e + 1) = if owT L (aheadL l k + (e : Int)) L.length = true then tryOf (aheadL l k + (e : Int)) (wth L G (aheadL l k + (e : Int)) L.length) else none
      unfold entR tryOf
      have e1 : aheadL l k - 1 + ((e + 1 : Nat) : Int) = aheadL l k + e := by omega
      rw [e1, clT_wth, decide_eq_false (by omega), if_neg (show ¬ aheadL l k + (e : Int) < aheadL l k by omega), Bool.false_or]
      cases owT L (aheadL l k + (e : Int)) L.length <;> cases holeL (wth L G (aheadL l k + (e : Int)) L.length) <;> simp
    rw [he0, hrest]
    unfold triesP
    rw [List.filterMap_cons]
end
end Go.Proofs.Ytpalgadokdcgnaa
