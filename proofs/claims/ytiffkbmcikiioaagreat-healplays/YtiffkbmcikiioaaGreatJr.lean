/-
  Pr, Px, Rd, Re, Rb, Rc, joined.
-/
import Derived.Test.YtiffkbmcikiioaaGreatY20
import Derived.Test.YtiffkbmcikiioaaGreatY40
import Derived.Test.YtiffkbmcikiioaaGreatY38
import Derived.Deep.DeepCutAuto
/-
  The document's answers: its Even and Without.
-/
namespace Go.Proofs.YtiffkbmcikiioaaGreat
set_option maxRecDepth 100000
open Go.RowKit M

/-- The first k texts without the one at place j. -/
def outTo (l : List ByteArray) (j k : Nat) : List ByteArray := (l.take k).eraseIdx j
theorem outTo_zero (l : List ByteArray) (j : Nat) : outTo l j 0 = [] := by simp [outTo]
theorem outTo_all (l : List ByteArray) (j : Nat) : outTo l j l.length = l.eraseIdx j := by simp [outTo]
theorem outTo_same (l : List ByteArray) (j : Nat) (h : j < l.length) : outTo l j (j + 1) = outTo l j j := by
  have hl : (l.take j).length = j := by rw [List.length_take]; omega
  have e1 : (l.take j ++ [l[j]]).eraseIdx j = l.take j := by
    rw [List.eraseIdx_append_of_length_le (by omega), hl, Nat.sub_self]
    exact List.append_nil _
  have e2 : (l.take j).eraseIdx j = l.take j := List.eraseIdx_of_length_le (by omega)
  rw [outTo, outTo, List.take_succ_eq_append_getElem h, e1, e2]
theorem outTo_next (l : List ByteArray) (j k : Nat) (h : k < l.length) (hne : k ≠ j) : outTo l j k ++ [l[k]] = outTo l j (k + 1) := by
  have hl : (l.take k).length = k := by rw [List.length_take]; omega
  unfold outTo
  rw [List.take_succ_eq_append_getElem h]
  by_cases hj : j < k
  · rw [List.eraseIdx_append_of_lt_length (by omega)]
  · rw [List.eraseIdx_of_length_le (by omega), List.eraseIdx_of_length_le (by simp; omega)]
theorem outTo_le (l : List ByteArray) (j k : Nat) : (outTo l j k).length ≤ l.length := by
  unfold outTo
  have h1 := List.length_eraseIdx_le (l.take k) j
  rw [List.length_take] at h1
  omega

end Go.Proofs.YtiffkbmcikiioaaGreat

/-
  The document's Xor: the parity, byte by byte.
-/
namespace Go.Proofs.YtiffkbmcikiioaaGreat
set_option maxRecDepth 100000
open Go.RowKit M

theorem xor_i64 (a b : UInt8) : bits BinOp.xor IntKind.i64 (a.toNat : Int) (b.toNat : Int) = ((a ^^^ b).toNat : Int) := by
  have ha := UInt8.toNat_lt a
  have hb := UInt8.toNat_lt b
  have hx := UInt8.toNat_lt (a ^^^ b)
  have h1 : (BitVec.ofInt 64 (a.toNat : Int)).toNat = a.toNat := by rw [BitVec.ofInt_natCast, BitVec.toNat_ofNat]; exact Nat.mod_eq_of_lt (by omega)
  have h2 : (BitVec.ofInt 64 (b.toNat : Int)).toNat = b.toNat := by rw [BitVec.ofInt_natCast, BitVec.toNat_ofNat]; exact Nat.mod_eq_of_lt (by omega)
  show IntKind.i64.wrap ((BitVec.ofInt 64 (a.toNat : Int) ^^^ BitVec.ofInt 64 (b.toNat : Int)).toNat : Int) = _
  rw [BitVec.toNat_xor, h1, h2, ← UInt8.toNat_xor, IntKind.wrap_i64]
  omega
theorem parL_succ (l : List ByteArray) (k : Nat) : parL l (k + 1) = parL l k ++ [colx l k] := by simp [parL, List.range_succ]
theorem colx_snoc (l : List ByteArray) (i k : Nat) (h : i < l.length) : colx (l.take (i + 1)) k = colx (l.take i) k ^^^ (l[i]).data.toList.getD k 0 := by
  rw [List.take_succ_eq_append_getElem h, colx_append, colx_one]
theorem byteD_at (s : ByteArray) (k : Nat) (h : k < s.size) : s.data.toList.getD k 0 = s[k] := by
  rw [List.getD_eq_getElem?_getD, List.getElem?_eq_getElem (by rw [← sizeL]; exact h)]
  rfl
theorem push_list (l : List UInt8) (b : UInt8) : (⟨l.toArray⟩ : ByteArray) ++ ⟨#[b]⟩ = ⟨(l ++ [b]).toArray⟩ := by
  apply extL
  simp
/-- string([]byte{b}). -/
theorem conv_one (w : World) (b : UInt8) : (convert 79 9 (.slice (some ⟨w.heap.size, 0, none⟩) 1 1)).run Tryz.prog (w.alloc (.cells #[.int .u8 (b.toNat : Int)] 5)) = .ok (.string ⟨#[b]⟩) (w.alloc (.cells #[.int .u8 (b.toNat : Int)] 5)) :=
  conv_from _ w.heap.size [b] ⟨fun j hj => by
    obtain rfl : j = 0 := by simpa using hj
    simp, fun j _ => World.frozen?_alloc_at _ _ _ _ rfl, by simp⟩ 1 1 rfl

set_option maxHeartbeats 2000000 in
theorem refXor_any (l : List ByteArray) (v : Value) (w : World) (h : Txt w v l) (hm : l.length ≤ maxLen) (ho : okL l = true) (hz : ∀ s ∈ l, s.size ≤ 4000) :
    Calls Tryz.prog 50 #[v] w fun e w' => e = .returned (.string (parB l)) ∧ Below w.heap.size w w' := by
  have hl : 0 < l.length := List.length_pos_iff.2 (ok_iff.1 ho).1
  obtain ⟨g, o, c, rfl, hcc, hg, hc⟩ := h.isSome hl
  unfold maxLen at hm
  have hc0 := hc 0 hl
  rw [Nat.add_zero] at hc0
  have hw := wide_at0 hl
  have hs0m := hz _ (List.getElem_mem hl)
  generalize hs0 : l[0] = s0 at hc0 hw hs0m
  clear hs0
  have HE := Lib.hid (ok_size ho)
  have HC := Lib.hid hc
  have HW := Lib.hid hw
  clear hc hw h hz ho
  generalize hn : l.length = n at hl hm hcc
  have HN := Lib.hid hn
  clear hn
  have hcv := conv_one
  go_enter Tryz.func50, Tryz.ntmps50
  go_wp2_with fail
  go_loopw [3, 4] (fun x i wx => ∃ k : Nat, k ≤ s0.size ∧ i = .int .i64 k ∧ x = .string ⟨(parL l k).toArray⟩ ∧ Below w.heap.size w wx) (fun _ i _ => s0.size - (intOf i).toNat)
  case atStart => exact ⟨0, Nat.zero_le _, rfl, rfl, Below.refl _ _⟩
  case round =>
    obtain ⟨k, hk, rfl, rfl, hb⟩ := hrel
    have hc0r : wr.cell? ⟨g, o, none⟩ = some (.string s0) := by rw [hb.cell (p := ⟨g, o, none⟩) hg]; exact hc0
    have hlen : (⟨(parL l k).toArray⟩ : ByteArray).size = k := by rw [sizeL]; simp [parL_length]
    by_cases hlt : k < s0.size
    · go_wp2_with fail
      go_loop [5, 6] (fun x i => ∃ (j : Nat) (b : UInt8), j ≤ n ∧ i = .int .i64 j ∧ x = .int .i64 (b.toNat : Int) ∧ Hid (b = colx (l.take j) k)) (fun _ i => n - (intOf i).toNat)
      case atStart => exact ⟨0, 0, Nat.zero_le _, rfl, rfl, Lib.hid (by simp [colx_nil])⟩
      case round =>
        obtain ⟨j, b, hj, rfl, rfl, HB⟩ := hrel
        by_cases hjn : j < n
        · have hjl : j < l.length := by rw [HN.out]; exact hjn
          have hcj : wr.cell? ⟨g, o + j, none⟩ = some (.string l[j]) := by rw [hb.cell (p := ⟨g, o + j, none⟩) hg]; exact HC.out j hjl
          have hsz : l[j].size = s0.size := (HE.out _ (List.getElem_mem hjl)).trans HW.out.symm
          have hsn := colx_snoc l j k hjl
          rw [← HB.out] at hsn
          generalize l[j] = s at hcj hsz hsn
          have hks : k < s.size := by rw [hsz]; exact hlt
          rw [byteD_at s k hks] at hsn
          have hx := xor_i64 b s[k]
          rw [← hsn] at hx
          generalize hB2 : colx (l.take (j + 1)) k = b2 at hx
          have HB2 := Lib.hid hB2.symm
          clear hsn hB2 HB hjl
          have hsl := UInt8.toNat_lt s[k]
          go_wp2
          go_round
          case rel => exact ⟨j + 1, b2, by omega, by go_num, rfl, HB2⟩
          case measure => simp [intOf]; omega
        · obtain rfl : j = n := by omega
          have hcb : colx l k = b := by rw [HB.out, List.take_of_length_le (by rw [HN.out]; exact Nat.le_refl _)]
          have HCB := Lib.hid hcb
          have hwb : IntKind.u8.wrap (b.toNat : Int) = (b.toNat : Int) := by have := UInt8.toNat_lt b; rw [IntKind.wrap_u8']; omega
          have hcvb := hcv wr b
          clear hcb
          go_wp2
          refine ⟨⟨k + 1, by omega, by go_num, ?_, hb.alloc hb.size _⟩, by simp [intOf]; omega⟩
          rw [push_list, parL_succ, HCB.out]
    · obtain rfl : k = s0.size := by omega
      have hp : (⟨(parL l s0.size).toArray⟩ : ByteArray) = parB l := by rw [parB, ← HW.out]
      have HP := Lib.hid hp
      clear hp hlen
      go_wp2
      go_ret
      exact ⟨by rw [← HP.out]; rfl, hb⟩
end Go.Proofs.YtiffkbmcikiioaaGreat

/-
  The document's Tries (polderref07): own slices of tries; what the tries are (plain facts).
-/
namespace Go.Proofs.YtiffkbmcikiioaaGreat
set_option maxRecDepth 100000
open Go.RowKit M

def cellsT (x : Int × ByteArray) : List Value := [.int .i64 x.1, .string x.2]
def flatT (l : List (Int × ByteArray)) : List Value := l.flatMap cellsT
theorem flatT_len (l : List (Int × ByteArray)) : (flatT l).length = l.length * 2 := by
  induction l with
  | nil => rfl
  | cons c r ih => simp only [flatT, List.flatMap_cons, List.length_append, List.length_cons] at ih ⊢; rw [ih]; simp [cellsT]; omega
theorem flatT_app (l m : List (Int × ByteArray)) : flatT (l ++ m) = flatT l ++ flatT m := by simp [flatT]
theorem flatT_at (l : List (Int × ByteArray)) (i : Nat) (hi : i < l.length) (j : Nat) (hj : j < 2) : (flatT l)[i * 2 + j]? = (cellsT l[i])[j]? := by
  induction l generalizing i with
  | nil => simp at hi
  | cons s r ih =>
    cases i with
    | zero =>
      simp only [flatT, List.flatMap_cons, List.getElem_cons_zero, Nat.zero_mul, Nat.zero_add]
      rw [List.getElem?_append_left (by simp [cellsT]; omega)]
    | succ i =>
      simp only [flatT, List.flatMap_cons, List.getElem_cons_succ]
      rw [List.getElem?_append_right (by simp [cellsT]; omega), show (cellsT s).length = 2 from rfl, show (i + 1) * 2 + j - 2 = i * 2 + j by omega]
      exact ih i (by simpa using hi)
theorem flatT_one (l : List (Int × ByteArray)) : ∀ v ∈ flatT l, v.oneCell' = true := by
  intro v hv
  obtain ⟨s, _, h⟩ := List.mem_flatMap.1 hv
  simp [cellsT] at h
  rcases h with rfl | rfl <;> rfl
/-- The slice v is the call's own, from block B on, and it is the tries l. -/
def OwnT (B : Nat) (w : World) (v : Value) (l : List (Int × ByteArray)) : Prop := w.ownsRow B 115 2 v l.length (flatT l)
theorem OwnT.nil (B : Nat) (w : World) : OwnT B w (.slice none 0 0) [] := World.ownsRow_nil _ _ _ _
theorem OwnT.below {w w' : World} {B : Nat} {v : Value} {l : List (Int × ByteArray)} (h : OwnT B w v l) (hb : Below w.heap.size w w') : OwnT B w' v l := by
  refine ⟨h.1, ?_⟩
  rcases h.2 with hn | ⟨g, cap, cur, rfl, hB, hg, rest⟩
  · exact .inl hn
  · exact .inr ⟨g, cap, cur, rfl, hB, by rw [hb.block g (Array.getElem?_eq_some_iff.1 hg).1]; exact hg, rest⟩
theorem OwnT.lower {w : World} {B B' : Nat} {v : Value} {l : List (Int × ByteArray)} (h : OwnT B w v l) (hB : B' ≤ B) : OwnT B' w v l := by
  refine ⟨h.1, ?_⟩
  rcases h.2 with hn | ⟨g, cap, cur, rfl, hB', hg, rest⟩
  · exact .inl hn
  · exact .inr ⟨g, cap, cur, rfl, Nat.le_trans hB hB', hg, rest⟩
theorem OwnT.isSl {w : World} {B : Nat} {v : Value} {l : List (Int × ByteArray)} (h : OwnT B w v l) : ∃ a c, v = .slice a l.length c := by
  rcases h.2 with ⟨rfl, h0⟩ | ⟨g, cap, cur, rfl, hB, hb, hnc, _⟩
  · exact ⟨_, _, by rw [h0]⟩
  · exact ⟨_, _, rfl⟩
/-- Where an own slice of tries lies. -/
theorem OwnT.at_ {w : World} {B : Nat} {v : Value} {l : List (Int × ByteArray)} (h : OwnT B w v l) (hl : 0 < l.length) :
    ∃ g c, v = .slice (some ⟨g, 0, none⟩) l.length c ∧ l.length ≤ c ∧ B ≤ g ∧ g < w.heap.size ∧ ∀ j (h : j < l.length), w.cell? ⟨g, j * 2, none⟩ = some (.int .i64 l[j].1) ∧ w.cell? ⟨g, j * 2 + 1, none⟩ = some (.string l[j].2) := by
  have hcells := fun g hg => World.ownsRow.cells (g := g) h hg
  rcases h.2 with ⟨_, h0⟩ | ⟨g, cap, cur, rfl, hB, hb, hnc, _⟩
  · omega
  · refine ⟨g, cap, rfl, hnc, hB, (Array.getElem?_eq_some_iff.1 hb).1, fun j hj => ⟨?_, ?_⟩⟩
    · have e := hcells g rfl (j * 2 + 0) _ ((flatT_at l j hj 0 (by decide)).trans (show (cellsT l[j])[0]? = some (.int .i64 l[j].1) from rfl))
      rwa [Go.WideShapes.add_plain, Nat.zero_add] at e
    · have e := hcells g rfl (j * 2 + 1) _ ((flatT_at l j hj 1 (by decide)).trans (show (cellsT l[j])[1]? = some (.string l[j].2) from rfl))
      rwa [Go.WideShapes.add_plain, Nat.zero_add] at e
theorem info_try : ∃ i, Tryz.prog.info? 115 = some i ∧ i.zero = some (.agg #[.int .i64 0, .string ⟨#[]⟩]) ∧ i.size = 2 ∧ i.bytes = 24 := info_parts (by kernel_rfl)
/-- append(v, x). -/
theorem wpList_append_try {ops : Array Oper} {rest : List Oper} {o : Oper} {a : Act} {Q : Exit → Act → World → Prop} (w : World) (hgd : o.guard = none) (s x : Operand)
    (ho : o.op = .call { callee := .builtin .append, args := #[s, x], argTypes := #[112, 112] }) (B : Nat) (v : Value) (l : List (Int × ByteArray)) (y : Int × ByteArray) (g c' : Nat) (hs : a.eval s = v) (hx : a.eval x = .slice (some ⟨g, 0, none⟩) 1 c')
    (hv : OwnT B w v l) (hc0 : w.cell? ⟨g, 0, none⟩ = some (.int .i64 y.1)) (hc1 : w.cell? ⟨g, 1, none⟩ = some (.string y.2)) (hB : B ≤ w.heap.size) (hN : l.length ≤ 100000)
    (h : ∀ v' w', OwnT B w' v' (l ++ [y]) → Below B w w' → w.heap.size ≤ w'.heap.size → wpList Tryz.prog ops Q rest (a.put o.dst v') w') : wpList Tryz.prog ops Q (o :: rest) a w := by
  obtain ⟨i, hi, hz, hsz, hb⟩ := info_try
  refine wpList_append_own_at w hgd s x _ ho B 115 i _ 2 24 Tryz.underlying112 hi hz hsz hb rfl (by decide) v l.length (flatT l) hs hv ⟨g, 0, none⟩ 1 c' (cellsT y) hx rfl (fun j u hj => ?_) (fun u hu => ?_) (by unfold maxLen; omega) (by omega) hB fun v' w' h1 h2 _ _ => ?_
  · have hlt : j < 2 := (List.getElem?_eq_some_iff.1 hj).1
    rw [Go.WideShapes.add_plain, ← hj, Nat.zero_add]
    match j, hlt with
    | 0, _ => exact hc0
    | 1, _ => exact hc1
  · exact flatT_one [y] u (by simpa [flatT] using hu)
  · refine h v' w' ?_ ((Below.refl B w).grown h2 hB fun k hk => (World.ownsRow.lt hv k hk).1) h2.size
    unfold OwnT
    rw [List.length_append, flatT_app]
    have e : flatT [y] = cellsT y := by simp [flatT]
    rw [e]
    exact h1

/-- Does a column count for device d? (p: a Parity) -/
def clQ (p : Bool) (L : List C) (d : Int) (j : Nat) : Bool := !parAt L j && (p || devAt L j == d)
def eltR (p : Bool) (L : List C) (G : List ByteArray) (d : Int) (j : Nat) : ByteArray := if p && (devAt L j == d) then agn L G j else G.getD j ⟨#[]⟩
/-- What the columns among the first i come to for device d. -/
def clT (p : Bool) (L : List C) (G : List ByteArray) (d : Int) (i : Nat) : List ByteArray := (idx (clQ p L d) i).map (eltR p L G d)
/-- Has device d data among the first i columns? -/
def owT (L : List C) (d : Int) (i : Nat) : Bool := (List.range i).any fun j => !parAt L j && devAt L j == d
theorem owT_succ (L : List C) (d : Int) (i : Nat) : owT L d (i + 1) = (owT L d i || (!parAt L i && devAt L i == d)) := by unfold owT; rw [List.range_succ, List.any_append]; simp
theorem clT_no {p : Bool} {L : List C} {G : List ByteArray} {d : Int} {i : Nat} (h : clQ p L d i = false) : clT p L G d (i + 1) = clT p L G d i := by unfold clT; rw [idx_no h]
theorem clT_yes {p : Bool} {L : List C} {G : List ByteArray} {d : Int} {i : Nat} (h : clQ p L d i = true) : clT p L G d (i + 1) = clT p L G d i ++ [eltR p L G d i] := by unfold clT; rw [idx_yes h, List.map_append]; rfl
theorem hole_snoc (l : List ByteArray) (x : ByteArray) : holeL (l ++ [x]) = (holeL l || x.size == 0) := by unfold holeL; simp
/-- The others of column i's row, among the first j columns. -/
def othTo (L : List C) (G : List ByteArray) (i j : Nat) : List ByteArray := (idx (fun p => (p != i) && rowAt L p == rowAt L i) j).map fun p => G.getD p ⟨#[]⟩
theorem oth_yes {L : List C} {G : List ByteArray} {i j : Nat} (h : ((j != i) && rowAt L j == rowAt L i) = true) : othTo L G i (j + 1) = othTo L G i j ++ [G.getD j ⟨#[]⟩] := by unfold othTo; rw [idx_yes h, List.map_append]; rfl
theorem oth_no {L : List C} {G : List ByteArray} {i j : Nat} (h : ((j != i) && rowAt L j == rowAt L i) = false) : othTo L G i (j + 1) = othTo L G i j := by unfold othTo; rw [idx_no h]
theorem oth_len (L : List C) (G : List ByteArray) (i j : Nat) : (othTo L G i j).length ≤ j := by unfold othTo; rw [List.length_map]; exact idx_le _ _
theorem oth_idx {L : List C} {i : Nat} : ∀ n, i < n → ∀ r, idx (fun p => rowAt L p == rowAt L i) n = idx (fun p => rowAt L p == rowAt L i) i ++ i :: r → (∀ j ∈ r, i < j) → idx (fun p => (p != i) && rowAt L p == rowAt L i) n = idx (fun p => rowAt L p == rowAt L i) i ++ r := by
  intro n _ r hr hm
  have e1 : idx (fun p => (p != i) && rowAt L p == rowAt L i) n = (idx (fun p => rowAt L p == rowAt L i) n).filter fun p => p != i := by
    unfold idx
    rw [List.filter_filter]
  rw [e1, hr, List.filter_append, List.filter_cons]
  have h1 : (idx (fun p => rowAt L p == rowAt L i) i).filter (fun p => p != i) = idx (fun p => rowAt L p == rowAt L i) i := List.filter_eq_self.2 fun x hx => by have := (idx_mem.1 hx).1; simp; omega
  have h2 : r.filter (fun p => p != i) = r := List.filter_eq_self.2 fun x hx => by have := hm x hx; simp; omega
  rw [h1, h2]
  simp
theorem oth_agn {L : List C} {G : List ByteArray} {i : Nat} (hi : i < L.length) : agn L G i = mkB (othTo L G i L.length) := by
  obtain ⟨r, hr, hm⟩ := idx_split (q := fun j => rowAt L j == rowAt L i) (a := i) (by simp) L.length hi
  unfold agn rowG othTo
  rw [oth_idx L.length hi r hr fun j hj => (hm j hj).1, hr, List.length_map, List.map_append, List.map_cons, List.eraseIdx_append_of_length_le (by simp), List.length_map, Nat.sub_self, List.eraseIdx_zero, List.tail_cons, List.map_append]
theorem oth_ne {L : List C} {G : List ByteArray} {i : Nat} (hi : i < L.length) (h2 : 2 ≤ (idx (fun j => rowAt L j == rowAt L i) L.length).length) : othTo L G i L.length ≠ [] := by
  obtain ⟨r, hr, hm⟩ := idx_split (q := fun j => rowAt L j == rowAt L i) (a := i) (by simp) L.length hi
  unfold othTo
  rw [oth_idx L.length hi r hr fun j hj => (hm j hj).1]
  intro e
  have e' := List.map_eq_nil_iff.1 e
  obtain ⟨e1, e2⟩ := List.append_eq_nil_iff.1 e'
  rw [hr, e1, e2] at h2
  simp at h2

theorem fm_congr {α β : Type} {f g : α → Option β} : ∀ {l : List α}, (∀ x ∈ l, f x = g x) → l.filterMap f = l.filterMap g
  | [], _ => rfl
  | x :: r, h => by
    rw [List.filterMap_cons, List.filterMap_cons, h x List.mem_cons_self, fm_congr fun y hy => h y (List.mem_cons_of_mem _ hy)]
theorem idx_congr {q q' : Nat → Bool} {n : Nat} (h : ∀ j, j < n → q j = q' j) : idx q n = idx q' n := by
  unfold idx
  exact List.filter_congr fun j hj => h j (List.mem_range.1 hj)
theorem idx_block (z e : Nat) (hz : 0 < z) : ∀ u, idx (fun j => j / z == e) (u * z) = if e < u then (List.range z).map (e * z + ·) else [] := by
  intro u
  induction u with
  | zero => simp [idx]
  | succ u ih =>
    unfold idx at ih ⊢
    rw [Nat.succ_mul, List.range_add, List.filter_append, ih, List.filter_map]
    have hdiv : ∀ i, i < z → (u * z + i) / z = u := fun i hi => by rw [Nat.add_comm, Nat.add_mul_div_right _ _ hz, Nat.div_eq_of_lt hi, Nat.zero_add]
    by_cases h : e = u
    · subst h
      rw [if_neg (by omega), if_pos (by omega), List.nil_append]
      congr 1
      refine List.filter_eq_self.2 fun i hi => ?_
      show ((e * z + i) / z == e) = true
      rw [hdiv i (List.mem_range.1 hi)]
      simp
    · have hf : (List.range z).filter ((fun j => j / z == e) ∘ fun x => u * z + x) = [] := List.filter_eq_nil_iff.2 fun i hi => by
        show ¬ ((u * z + i) / z == e) = true
        rw [hdiv i (List.mem_range.1 hi)]
        simp
        exact fun e' => h e'.symm
      rw [hf, List.map_nil, List.append_nil]
      by_cases h2 : e < u
      · rw [if_pos h2, if_pos (by omega)]
      · rw [if_neg h2, if_neg (by omega)]
/-- The e-th device of the document's loop: what comes. -/
def entR (p : Bool) (fst kk : Int) (L : List C) (G : List ByteArray) (e : Nat) : Option (Int × ByteArray) :=
  if (decide (fst - kk + e < fst) || owT L (fst - kk + e) L.length) && !holeL (clT p L G (fst - kk + e) L.length) then some (if fst - kk + e < fst then -1 else fst - kk + e, joinB (clT p L G (fst - kk + e) L.length)) else none
section
variable {l : List (Int × Int)} {sc : Int} {k t z : Nat} {s : ByteArray} {kk : Int} {u : Nat} {L : List C} {f : Nat → ByteArray}
theorem clT_wth (L : List C) (G : List ByteArray) (d : Int) : clT true L G d L.length = wth L G d L.length := by
  unfold clT wth
  have e : idx (clQ true L d) L.length = idx (fun j => !parAt L j) L.length := idx_congr fun j _ => by unfold clQ; simp
  rw [e]
  apply List.map_congr_left
  intro j _
  unfold eltR
  by_cases h : devAt L j = d
  · rw [if_pos h, if_pos (by simp [h])]
  · rw [if_neg h, if_neg (by simp [h])]
theorem owT_iff {d : Int} : owT L d L.length = true ↔ ∃ j, j < L.length ∧ parAt L j = false ∧ devAt L j = d := by
  unfold owT
  rw [List.any_eq_true]
  constructor
  · rintro ⟨j, hj, h⟩
    rw [Bool.and_eq_true] at h
    exact ⟨j, List.mem_range.1 hj, by simpa using h.1, by simpa using h.2⟩
  · rintro ⟨j, hj, h1, h2⟩
    exact ⟨j, List.mem_range.2 hj, by simp [h1, h2]⟩
theorem Enc7.dev_in (h : Enc7 l sc k t z s kk u L f) {j : Nat} (hj : j < L.length) : aheadL l k ≤ devAt L j ∧ devAt L j < aheadL l k + u := by
  have hL := h.hL
  have h0 := h.blk.laid.dev0
  have h1 := h.blk.laid.dev1
  rw [hL] at h0 h1
  have hk := h.blk.hk
  have hlk : l[k] = (kk, (u : Int)) := by rw [← getD_at hk]; exact h.kind.grp
  rw [hlk] at h1
  rw [devAt_eq hj]
  exact ⟨h0 j hj, h1 j hj⟩
theorem Enc7.refTries (h : Enc7 l sc k t z s kk u L f) {G : List ByteArray} (hG : G.length = L.length) : (List.range (kk.toNat + u)).filterMap (entR (kk == 1) (aheadL l k) kk L G) = triesB l k t z G := by
  unfold triesB
  rw [h.kind.grp, h.hL]
  have hz := h.blk.z1
  rcases h.kind.ok with h0 | h1
  · obtain ⟨_, hl, _⟩ := h.mir h0.1
    have hk0 := h0.1
    rw [hk0, if_pos rfl]
    show (List.range (0 + u)).filterMap (entR false (aheadL l k) 0 L G) = triesM L G (u : Int).toNat z
    rw [Nat.zero_add, Int.toNat_natCast]
    unfold triesM
    apply fm_congr
    intro e he
    have he := List.mem_range.1 he
    have hb : e * z + z ≤ u * z := by rw [← Nat.succ_mul]; exact Nat.mul_le_mul_right _ he
    have hcl : clT false L G (aheadL l k - 0 + e) L.length = chunk G z e := by
      unfold clT
      have hi : idx (clQ false L (aheadL l k - 0 + e)) L.length = (List.range z).map (e * z + ·) := by
        rw [idx_congr (q' := fun j => j / z == e) fun j hj => by
          unfold clQ
          rw [h.noPar hk0 hj, h.devM hk0 hj]
          rw [Bool.eq_iff_iff]
          simp
          omega]
        rw [hl, idx_block z e hz u, if_pos he]
      rw [hi, chunk_map (by rw [hG, hl]) he, List.map_map]
      apply List.map_congr_left
      intro i _
      rfl
    have hdv : devAt L (e * z) = aheadL l k - 0 + e := by rw [h.devM hk0 (by rw [hl]; omega), Nat.mul_div_cancel _ hz]; omega
    have hown : owT L (aheadL l k - 0 + e) L.length = true := owT_iff.2 ⟨e * z, by rw [hl]; omega, h.noPar hk0 (by rw [hl]; omega), hdv⟩
    unfold entR tryOf
    rw [hcl, hown, hdv, if_neg (show ¬ aheadL l k - 0 + (e : Int) < aheadL l k by omega)]
    cases holeL (chunk G z e) <;> simp
  · have hk1 := h1.1
    rw [hk1, if_neg Int.one_ne_zero]
    show (List.range (1 + u)).filterMap (entR true (aheadL l k) 1 L G) = _
    rw [Nat.add_comm, List.range_succ_eq_map, List.filterMap_cons]
    have hw0 : wth L G (aheadL l k - 1) L.length = wth L G (-1) L.length := by
      unfold wth
      apply List.map_congr_left
      intro j hj
      have hj := (idx_mem.1 hj).1
      have hd := h.dev_in hj
      have h0 := h.blk.dev j (by rw [h.hL]; exact hj)
      have hL := h.hL
      subst hL
      rw [if_neg (by omega), if_neg (by rw [devAt_eq hj]; omega)]
    have he0 : entR true (aheadL l k) 1 L G 0 = tryOf (-1) (wth L G (-1) L.length) := by
      unfold entR tryOf
      have e1 : aheadL l k - 1 + ((0 : Nat) : Int) = aheadL l k - 1 := by simp
      rw [e1, clT_wth, hw0, decide_eq_true (by omega), if_pos (show aheadL l k - 1 < aheadL l k by omega)]
      cases holeL (wth L G (-1) L.length) <;> simp
    have hrest : ((List.range u).map Nat.succ).filterMap (entR true (aheadL l k) 1 L G) = (devsS ((datL L).map C.dev)).filterMap fun d => tryOf d (wth L G d L.length) := by
      have hdv : devsS ((datL L).map C.dev) = ((List.range u).map fun e : Nat => aheadL l k + (e : Int)).filter fun d => owT L d L.length := by
        refine lt_ext _ _ (devsS_spec _).1 (List.Pairwise.filter _ ?_) fun x => ?_
        · rw [List.pairwise_map]
          exact (List.pairwise_lt_range).imp fun hab => by omega
        · rw [(devsS_spec _).2, List.mem_filter, owT_iff, List.mem_map, List.mem_map]
          constructor
          · rintro ⟨c, hc, rfl⟩
            unfold datL at hc
            rw [List.mem_filter] at hc
            obtain ⟨j, hj, rfl⟩ := List.getElem_of_mem hc.1
            have hd := h.dev_in hj
            rw [devAt_eq hj] at hd
            refine ⟨⟨(L[j].dev - aheadL l k).toNat, List.mem_range.2 (by omega), by omega⟩, j, hj, by rw [parAt_eq hj]; simpa using hc.2, devAt_eq hj⟩
          · rintro ⟨_, j, hj, hp, hd⟩
            refine ⟨L[j], ?_, by rw [← devAt_eq hj]; exact hd⟩
            unfold datL
            rw [List.mem_filter]
            exact ⟨List.getElem_mem _, by rw [← parAt_eq hj, hp]; rfl⟩
      rw [hdv, List.filterMap_filter, List.filterMap_map, List.filterMap_map]
      apply fm_congr
      intro e _
      show entR true (aheadL l k) 1 L G (e + 1) = if owT L (aheadL l k + (e : Int)) L.length = true then tryOf (aheadL l k + (e : Int)) (wth L G (aheadL l k + (e : Int)) L.length) else none
      unfold entR tryOf
      have e1 : aheadL l k - 1 + ((e + 1 : Nat) : Int) = aheadL l k + e := by omega
      rw [e1, clT_wth, decide_eq_false (by omega), if_neg (show ¬ aheadL l k + (e : Int) < aheadL l k by omega), Bool.false_or]
      cases owT L (aheadL l k + (e : Int)) L.length <;> cases holeL (wth L G (aheadL l k + (e : Int)) L.length) <;> simp
    rw [he0, hrest]
    unfold triesP
    rw [List.filterMap_cons]
end
end Go.Proofs.YtiffkbmcikiioaaGreat

/-
  The document's Tries (polderref07): the walk.
-/
namespace Go.Proofs.YtiffkbmcikiioaaGreat
set_option maxRecDepth 100000
open Go.RowKit M

def trsTo (p : Bool) (fst kk : Int) (L : List C) (G : List ByteArray) (e : Nat) : List (Int × ByteArray) := (List.range e).filterMap (entR p fst kk L G)
theorem trsTo_some {p : Bool} {fst kk : Int} {L : List C} {G : List ByteArray} {e : Nat} {x : Int × ByteArray} (h : entR p fst kk L G e = some x) : trsTo p fst kk L G (e + 1) = trsTo p fst kk L G e ++ [x] := by
  unfold trsTo; rw [List.range_succ, List.filterMap_append, List.filterMap_cons_some h]; rfl
theorem trsTo_none {p : Bool} {fst kk : Int} {L : List C} {G : List ByteArray} {e : Nat} (h : entR p fst kk L G e = none) : trsTo p fst kk L G (e + 1) = trsTo p fst kk L G e := by
  unfold trsTo; rw [List.range_succ, List.filterMap_append, List.filterMap_cons_none h]; simp
theorem trsTo_le (p : Bool) (fst kk : Int) (L : List C) (G : List ByteArray) (e : Nat) : (trsTo p fst kk L G e).length ≤ e := by
  unfold trsTo; exact Nat.le_trans (List.length_filterMap_le _ _) (by simp)
theorem appT_size (s t : ByteArray) : (s ++ t).size = s.size + t.size := by rw [ByteArray.size_append]

set_option maxHeartbeats 16000000 in
theorem refTries_any (l : List (Int × Int)) (sc : Int) (v : Value) (w : World) (h : Meas w v l sc) (k t z : Nat) (hB : Blk l sc k t z) (G : List ByteArray) (vG : Value) (hG : Txt w vG G) (hGl : G.length = (colsOf l k t z).length) (hfit : ∀ x ∈ G, x.size = 0 ∨ x.size = 64) :
    Calls Tryz.prog 48 #[v, .agg #[.int .i64 (k : Int), .int .i64 (t : Int)], .int .i64 (z : Int), vG] w fun e w' => ∃ v', e = .returned v' ∧ OwnT w.heap.size w' v' (triesB l k t z G) ∧ Below w.heap.size w w' := by
  obtain ⟨kk, u, hE⟩ := hB.enc7 (s := zeroB (z * 64)) (zeroB_size _)
  have K1 := h
  obtain ⟨a, n, c, rfl, hg⟩ := id h
  replace K1 := Lib.hid (HeldP.start (k : Int) (t : Int) K1)
  have HOF := Lib.hid (refOf_any l sc _ _ K1.out.h.m k t z hB)
  generalize hL : colsOf l k t z = L at hE HOF hGl
  generalize (fun i => sect (zeroB (z * 64)) (i % z)) = f at hE
  obtain ⟨hm0, hm32⟩ := hE.few
  obtain ⟨m, hm⟩ : ∃ m, L.length = m := ⟨_, rfl⟩
  rw [hm] at hm0 hm32 hGl
  have HML := Lib.hid hm
  have HE := Lib.hid hE
  have HT := Lib.hid hG
  have HGL := Lib.hid hGl
  have HFT := Lib.hid hfit
  obtain ⟨gG, oG, cG, eG, hcG, hgG, hjG⟩ := hG.isSome (by omega)
  rw [hGl] at eG hcG
  subst eG
  have HJG := Lib.hid hjG
  have hkl := hB.hk
  have hlk : l[k] = (kk, (u : Int)) := by rw [← getD_at hkl]; exact hE.kind.grp
  have HLK : Hid (∃ h : k < l.length, l[k] = (kk, (u : Int))) := Lib.hid ⟨hkl, hlk⟩
  have hk4 := hB.bounds.2
  have hu : 1 ≤ u ∧ u ≤ 8 := by rcases hE.kind.ok with ⟨_, h1, h2, _⟩ | ⟨_, h1, h2, _⟩ <;> omega
  obtain ⟨hu1, hu8⟩ := hu
  obtain ⟨fst, hfst⟩ : ∃ x, aheadL l k = x := ⟨_, rfl⟩
  have hfb := hB.right.bounds k (Nat.le_of_lt hkl)
  rw [hfst] at hfb
  have HFST := Lib.hid hfst
  have HFIN : Hid (trsTo (kk == 1) fst kk L G (kk.toNat + u) = triesB l k t z G) := Lib.hid (by rw [← hfst]; exact hE.refTries (by rw [hGl, hm]))
  have HZ := Lib.hid hB.z4
  clear h hg hE hm hG hjG hfit hfst hGl hkl hlk hL
  have HR := Lib.hid hB
  clear hB
  go_enter Tryz.func48, Tryz.ntmps48
  go_wp2_with fail
  refine HOF.out.mono ?_
  rintro e w2 ⟨v2, rfl, hO2, b2⟩
  obtain ⟨g6, cc6, rfl, hcc6, hg6B, hA6⟩ := OwnC.some hO2 (by rw [HML.out]; exact hm0)
  rw [HML.out] at hcc6 ⊢
  have HA6 := Lib.hid hA6
  have K2 := Lib.hid (K1.out.next b2)
  have hnl := K2.out.h.len
  have hkn : k < n := by rw [← hnl.1]; exact HLK.out.1
  have hn9 := hnl.2
  obtain ⟨gg, og, rfl, hlt, e0, e1⟩ := K2.out.h.at_ HLK.out.1 HLK.out.2
  dsimp only at e0 e1
  have c0 := K2.out.h.c0
  have c1 := K2.out.h.c1
  have p0 := K2.out.p0
  clear hO2 hA6 b2 K1 HOF hnl
  have b3 := boxed w2 (.cells #[.int .i64 kk, .int .i64 (u : Int)] 53)
  have K3 := Lib.hid (K2.out.next b3)
  have c0' := K3.out.h.c0
  have c1' := K3.out.h.c1
  have p0' := K3.out.p0
  have hx0 : (w2.alloc (.cells #[.int .i64 kk, .int .i64 (u : Int)] 53)).cell? ⟨w2.heap.size, 0, none⟩ = some (.int .i64 kk) := (new_pair _ _ _ _).1
  have hx1 : (w2.alloc (.cells #[.int .i64 kk, .int .i64 (u : Int)] 53)).cell? ⟨w2.heap.size, 1, none⟩ = some (.int .i64 (u : Int)) := (new_pair _ _ _ _).2
  go_wp2_with fail
  refine (refFirst_any l sc _ _ K3.out.h.m HR.out.right k (Nat.le_of_lt HR.out.hk) fst HFST.out).mono ?_
  rintro e wA ⟨rfl, b4⟩
  have hsA := b4.size
  rw [World.size_alloc] at hsA
  have hx0A := (b4.cell (p := ⟨w2.heap.size, 0, none⟩) (by simp)).trans hx0
  have hx1A := (b4.cell (p := ⟨w2.heap.size, 1, none⟩) (by simp)).trans hx1
  have HAA := Lib.hid ((HA6.out.next b3).next b4)
  have HWA := Lib.hid (K3.out.next b4).h.below
  have hg6A := HAA.out.lt
  have HGA : Hid (∀ j (h : j < G.length), wA.cell? ⟨gG, oG + j, none⟩ = some (.string G[j])) := Lib.hid fun j h => by rw [HWA.out.cell (p := ⟨gG, oG + j, none⟩) hgG]; exact HJG.out j h
  have hgGA : gG < wA.heap.size := Nat.lt_of_lt_of_le hgG HWA.out.size
  generalize w2.heap.size = gx at hx0A hx1A hsA
  clear b3 b4 K2 K3 c0 c1 p0 c0' c1' p0' hx0 hx1 e0 e1 HA6 HJG HT hlt
  obtain ⟨p, hp⟩ : ∃ p, (kk == 1) = p := ⟨_, rfl⟩
  rw [hp] at HFIN
  have kk01 : kk = 0 ∨ kk = 1 := by rcases HE.out.kind.ok with h | h; exact .inl h.1; exact .inr h.1
  obtain ⟨D0, hD0⟩ : ∃ D0, fst - kk = D0 := ⟨_, rfl⟩
  have hw1 : IntKind.i64.wrap (fst - kk) = D0 := by rw [IntKind.wrap_i64]; omega
  have HD0 := Lib.hid hD0
  clear hD0
  have hw2 : IntKind.i64.wrap (fst + (u : Int)) = fst + (u : Int) := by rw [IntKind.wrap_i64]; omega
  obtain ⟨Et, hEt⟩ : ∃ Et, kk.toNat + u = Et := ⟨_, rfl⟩
  rw [hEt] at HFIN
  go_wp2_with fail
  go_loopw [10, 13] (fun t10 t13 wr => ∃ (e nO : Nat) (b : Option Addr) (cc : Nat) (d : Int), e ≤ Et ∧ nO ≤ e ∧ t10 = .slice b nO cc ∧ t13 = .int .i64 d ∧ d = fst - kk + e ∧ Hid (OwnT wA.heap.size wr (.slice b nO cc) (trsTo p fst kk L G e)) ∧ Hid ((trsTo p fst kk L G e).length = nO) ∧ Hid (Below wA.heap.size wA wr)) (fun _ d _ => (fst + u - intOf d).toNat)
  case atStart => exact ⟨0, 0, none, 0, D0, Nat.zero_le _, Nat.le_refl _, rfl, rfl, by rw [← HD0.out]; simp, Lib.hid (OwnT.nil _ _), Lib.hid rfl, Lib.hid (Below.refl _ _)⟩
  case round =>
    obtain ⟨e, nO, b, cc, d, he, hne, rfl, rfl, hd, HO, HON, HW⟩ := hrel
    have hsr := HW.out.size
    have y0 := (HW.out.cell (p := ⟨gx, 0, none⟩) (by show gx < wA.heap.size; omega)).trans hx0A
    have y1 := (HW.out.cell (p := ⟨gx, 1, none⟩) (by show gx < wA.heap.size; omega)).trans hx1A
    by_cases hde : e < Et
    · have hdlt : d < fst + u := by rcases kk01 with rfl | rfl <;> omega
      have hdl : decide (d < fst + (u : Int)) = true := decide_eq_true hdlt
      obtain ⟨O0, hO0⟩ : ∃ b, decide (d < fst) = b := ⟨_, rfl⟩
      have hd0 : -1 ≤ d ∧ d ≤ 100 := by rcases kk01 with rfl | rfl <;> omega
      obtain ⟨hd1, hd2⟩ := hd0
      have HD := Lib.hid hd
      have HO0 := Lib.hid hO0
      clear hd
      go_wp2_with fail
      rename World => wB
      go_loopw [14, 15, 16, 17] (fun t14 t15 t16 i17 wr => ∃ (i : Nat) (S : ByteArray) (Wh Ow : Bool), i ≤ m ∧ S.size ≤ 64 * i ∧ t14 = .string S ∧ t15 = .bool Wh ∧ t16 = .bool Ow ∧ i17 = .int .i64 (i : Int) ∧ Hid (Ow = (O0 || owT L d i)) ∧ Hid (Wh = !holeL (clT p L G d i)) ∧ Hid (Wh = true → S = joinB (clT p L G d i)) ∧ Hid (Below wB.heap.size wB wr)) (fun _ _ _ i _ => m - (intOf i).toNat)
      case atStart => exact ⟨0, ⟨#[]⟩, true, O0, Nat.zero_le _, Nat.le_refl _, rfl, rfl, by rw [← HO0.out], rfl, Lib.hid (by simp [owT]), Lib.hid (by simp [clT, idx, holeL]), Lib.hid (fun _ => by simp [clT, idx, joinB]), Lib.hid (Below.refl _ _)⟩
      case round =>
        obtain ⟨i, S, Wh, Ow, hi, hSs, rfl, rfl, rfl, rfl, HOW, HWH, HSJ, HV⟩ := hrel
        have HWV := Lib.hid (next HW.out HV.out)
        have hsv := HWV.out.size
        have x0 := (HV.out.cell (p := ⟨gx, 0, none⟩) (by show gx < wB.heap.size; omega)).trans y0
        have x1 := (HV.out.cell (p := ⟨gx, 1, none⟩) (by show gx < wB.heap.size; omega)).trans y1
        by_cases him : i < m
        · have hiL : i < L.length := by rw [HML.out]; exact him
          have hiG : i < G.length := by rw [HGL.out]; exact him
          obtain ⟨x, hx⟩ : ∃ x, L[i] = x := ⟨_, rfl⟩
          have hCx := (HAA.out.next HWV.out).at_ i hiL
          rw [hx] at hCx
          obtain ⟨f0, f1, f2, f3⟩ := hCx
          obtain ⟨y, hy⟩ : ∃ y, G[i] = y := ⟨_, rfl⟩
          have hyc := (HWV.out.cell (p := ⟨gG, oG + i, none⟩) hgGA).trans (HGA.out i hiG)
          rw [hy] at hyc
          have hys := HFT.out y (by rw [← hy]; exact List.getElem_mem _)
          have hys64 : y.size ≤ 64 := by omega
          have HPX : Hid (parAt L i = x.par) := Lib.hid (by rw [parAt_eq hiL, hx])
          have HRX : Hid (rowAt L i = x.row) := Lib.hid (by rw [rowAt_eq hiL, hx])
          have HDX : Hid (devAt L i = x.dev) := Lib.hid (by rw [devAt_eq hiL, hx])
          have HGY : Hid (G.getD i ⟨#[]⟩ = y) := Lib.hid (getD_some ⟨hiG, hy⟩)
          have HIL := Lib.hid hiL
          have hqe := empty_txt y
          have HYS := Lib.hid hys
          clear hx hy hiL hiG hys
          cases hpx : x.par with
          | true =>
            rw [hpx] at f2
            have HC1 : Hid (clT p L G d (i + 1) = clT p L G d i) := Lib.hid (clT_no (by unfold clQ; rw [HPX.out, hpx]; rfl))
            have HOW1 : Hid (Ow = (O0 || owT L d (i + 1))) := Lib.hid (by rw [owT_succ, HPX.out, hpx, HOW.out]; simp)
            go_wp2
            go_roundw
            case rel => exact ⟨i + 1, S, Wh, Ow, by omega, by omega, rfl, rfl, rfl, by go_num, HOW1, Lib.hid (by rw [HC1.out]; exact HWH.out), Lib.hid (by rw [HC1.out]; exact HSJ.out), HV⟩
            case measure => simp [intOf]; omega
          | false =>
            rw [hpx] at f2
            have HPF : Hid (parAt L i = false) := Lib.hid (by rw [HPX.out]; exact hpx)
            clear hpx HPX
            rcases kk01 with hk0 | hk1
            · subst hk0
              obtain rfl : false = p := hp
              cases hdd : (x.dev == d) with
              | false =>
                have hdd2 : (x.dev != d) = true := by unfold bne; rw [hdd]; rfl
                have HC1 : Hid (clT false L G d (i + 1) = clT false L G d i) := Lib.hid (clT_no (by unfold clQ; rw [HPF.out, HDX.out, hdd]; rfl))
                have HOW1 : Hid (Ow = (O0 || owT L d (i + 1))) := Lib.hid (by rw [owT_succ, HPF.out, HDX.out, hdd, HOW.out]; simp)
                go_wp2
                go_roundw
                case rel => exact ⟨i + 1, S, Wh, Ow, by omega, by omega, rfl, rfl, rfl, by go_num, HOW1, Lib.hid (by rw [HC1.out]; exact HWH.out), Lib.hid (by rw [HC1.out]; exact HSJ.out), HV⟩
                case measure => simp [intOf]; omega
              | true =>
                have hdd2 : (x.dev != d) = false := by unfold bne; rw [hdd]; rfl
                have HC1 : Hid (clT false L G d (i + 1) = clT false L G d i ++ [y]) := Lib.hid (by rw [clT_yes (by unfold clQ; rw [HPF.out, HDX.out, hdd]; rfl), eltR, HGY.out]; rfl)
                have HOW1 : Hid (true = (O0 || owT L d (i + 1))) := Lib.hid (by rw [owT_succ, HPF.out, HDX.out, hdd]; simp)
                have hSy : (S ++ y).size ≤ 64 * (i + 1) := by rw [appT_size]; omega
                obtain ⟨yz, hyz⟩ : ∃ b, (y.size == 0) = b := ⟨_, rfl⟩
                rw [hyz] at hqe
                obtain ⟨Wn, hWn⟩ : ∃ b, (Wh && !yz) = b := ⟨_, rfl⟩
                have HWV2 := Lib.hid hWn
                have HWn : Hid (Wn = !holeL (clT false L G d (i + 1))) := Lib.hid (by rw [HC1.out, hole_snoc, hyz, ← hWn, HWH.out]; simp)
                have HSn : Hid (Wn = true → S ++ y = joinB (clT false L G d (i + 1))) := Lib.hid fun hW => by
                  have hWh : Wh = true := by rw [← hWn] at hW; cases Wh <;> simp at hW ⊢
                  rw [HC1.out, ← joinB_snoc, ← HSJ.out hWh]
                clear hWn hyz
                go_upto_region 15 with (fail)
                go_cut [16] (fun s16 wc => s16 = .bool true ∧ wc = wr)
                case first =>
                  cases Ow with
                  | true =>
                    go_wp2
                    go_meet
                    exact ⟨by first | rfl | simp, rfl⟩
                  | false =>
                    go_wp2
                    go_meet
                    exact ⟨by first | rfl | simp, rfl⟩
                case rest =>
                  obtain ⟨rfl, hwc⟩ := hcut
                  have hwc' := hwc.symm
                  clear hwc
                  subst hwc'
                  go_upto_region 27 with (fail)
                  go_cut [15] (fun s15 wc => s15 = .bool Wn ∧ wc = wr)
                  case first =>
                    cases Wn with
                    | true =>
                      obtain ⟨hc1, hc2⟩ : Wh = true ∧ yz = false := by have := HWV2.out; cases Wh <;> cases yz <;> simp at this ⊢
                      subst hc1
                      subst hc2
                      go_wp2
                      go_meet
                      exact ⟨rfl, rfl⟩
                    | false =>
                      cases Wh with
                      | true =>
                        have hc2 : yz = true := by have := HWV2.out; cases yz <;> simp at this ⊢
                        subst hc2
                        go_wp2
                        go_meet
                        exact ⟨rfl, rfl⟩
                      | false =>
                        go_wp2
                        go_meet
                        exact ⟨rfl, rfl⟩
                  case rest =>
                    obtain ⟨rfl, hwc⟩ := hcut
                    have hwc' := hwc.symm
                    clear hwc
                    subst hwc'
                    go_wp2
                    go_roundw
                    case rel => exact ⟨i + 1, S ++ y, Wn, true, by omega, hSy, rfl, rfl, rfl, by go_num, HOW1, HWn, HSn, HV⟩
                    case measure => simp [intOf]; omega
            · subst hk1
              obtain rfl : true = p := hp
              cases hdd : (x.dev == d) with
              | false =>
                have hdd2 : (x.dev != d) = true := by unfold bne; rw [hdd]; rfl
                have HC1 : Hid (clT true L G d (i + 1) = clT true L G d i ++ [y]) := Lib.hid (by rw [clT_yes (by unfold clQ; rw [HPF.out]; rfl), eltR, HDX.out, hdd, HGY.out]; rfl)
                have HOW1 : Hid (Ow = (O0 || owT L d (i + 1))) := Lib.hid (by rw [owT_succ, HPF.out, HDX.out, hdd, HOW.out]; simp)
                have hSy : (S ++ y).size ≤ 64 * (i + 1) := by rw [appT_size]; omega
                obtain ⟨yz, hyz⟩ : ∃ b, (y.size == 0) = b := ⟨_, rfl⟩
                rw [hyz] at hqe
                obtain ⟨Wn, hWn⟩ : ∃ b, (Wh && !yz) = b := ⟨_, rfl⟩
                have HWV2 := Lib.hid hWn
                have HWn : Hid (Wn = !holeL (clT true L G d (i + 1))) := Lib.hid (by rw [HC1.out, hole_snoc, hyz, ← hWn, HWH.out]; simp)
                have HSn : Hid (Wn = true → S ++ y = joinB (clT true L G d (i + 1))) := Lib.hid fun hW => by
                  have hWh : Wh = true := by rw [← hWn] at hW; cases Wh <;> simp at hW ⊢
                  rw [HC1.out, ← joinB_snoc, ← HSJ.out hWh]
                clear hWn hyz
                go_upto_region 15 with (fail)
                go_cut [16] (fun s16 wc => s16 = .bool Ow ∧ wc = wr)
                case first =>
                  cases Ow with
                  | true =>
                    go_wp2
                    go_meet
                    exact ⟨by first | rfl | simp, rfl⟩
                  | false =>
                    go_wp2
                    go_meet
                    exact ⟨by first | rfl | simp, rfl⟩
                case rest =>
                  obtain ⟨rfl, hwc⟩ := hcut
                  have hwc' := hwc.symm
                  clear hwc
                  subst hwc'
                  go_upto_region 27 with (fail)
                  go_cut [15] (fun s15 wc => s15 = .bool Wn ∧ wc = wr)
                  case first =>
                    cases Wn with
                    | true =>
                      obtain ⟨hc1, hc2⟩ : Wh = true ∧ yz = false := by have := HWV2.out; cases Wh <;> cases yz <;> simp at this ⊢
                      subst hc1
                      subst hc2
                      go_wp2
                      go_meet
                      exact ⟨rfl, rfl⟩
                    | false =>
                      cases Wh with
                      | true =>
                        have hc2 : yz = true := by have := HWV2.out; cases yz <;> simp at this ⊢
                        subst hc2
                        go_wp2
                        go_meet
                        exact ⟨rfl, rfl⟩
                      | false =>
                        go_wp2
                        go_meet
                        exact ⟨rfl, rfl⟩
                  case rest =>
                    obtain ⟨rfl, hwc⟩ := hcut
                    have hwc' := hwc.symm
                    clear hwc
                    subst hwc'
                    go_wp2
                    go_roundw
                    case rel => exact ⟨i + 1, S ++ y, Wn, Ow, by omega, hSy, rfl, rfl, rfl, by go_num, HOW1, HWn, HSn, HV⟩
                    case measure => simp [intOf]; omega
              | true =>
                have hdd2 : (x.dev != d) = false := by unfold bne; rw [hdd]; rfl
                have HC1 : Hid (clT true L G d (i + 1) = clT true L G d i ++ [mkB (othTo L G i m)]) := Lib.hid (by rw [clT_yes (by unfold clQ; rw [HPF.out]; rfl), eltR, HDX.out, hdd, oth_agn HIL.out, HML.out]; rfl)
                have HOW1 : Hid (true = (O0 || owT L d (i + 1))) := Lib.hid (by rw [owT_succ, HPF.out, HDX.out, hdd]; simp)
                have HON2 : Hid (othTo L G i m ≠ []) := Lib.hid (by rw [← HML.out]; exact oth_ne HIL.out (HE.out.pair rfl i HIL.out HPF.out))
                have HOSZ : Hid (∀ j, ∀ x ∈ othTo L G i j, x.size = 0 ∨ x.size = 64) := Lib.hid fun j x hx => by
                  obtain ⟨q, _, rfl⟩ := List.mem_map.1 hx
                  show (G.getD q ⟨#[]⟩).size = 0 ∨ (G.getD q ⟨#[]⟩).size = 64
                  rw [List.getD_eq_getElem?_getD]
                  cases hq : G[q]? with
                  | none => exact .inl rfl
                  | some t => exact HFT.out t (List.mem_of_getElem? hq)
                go_upto_region 15 with (fail)
                go_cut [16] (fun s16 wc => s16 = .bool true ∧ wc = wr)
                case first =>
                  cases Ow with
                  | true =>
                    go_wp2
                    go_meet
                    exact ⟨by first | rfl | simp, rfl⟩
                  | false =>
                    go_wp2
                    go_meet
                    exact ⟨by first | rfl | simp, rfl⟩
                case rest =>
                  obtain ⟨rfl, hwc⟩ := hcut
                  have hwc' := hwc.symm
                  clear hwc
                  subst hwc'
                  go_wp2_with fail
                  rename World => wC
                  go_loopw [15, 19, 20] (fun t15 t19 i20 wr => ∃ (j q : Nat) (W' : Bool) (b' : Option Addr) (cc' : Nat), j ≤ m ∧ q ≤ j ∧ t15 = .bool W' ∧ t19 = .slice b' q cc' ∧ i20 = .int .i64 (j : Int) ∧ Hid (W' = (Wh && !holeL (othTo L G i j))) ∧ Hid (Own wr wC.heap.size (.slice b' q cc') (othTo L G i j)) ∧ Hid ((othTo L G i j).length = q) ∧ Hid (Below wC.heap.size wC wr)) (fun _ _ i _ => m - (intOf i).toNat)
                  case atStart => exact ⟨0, 0, Wh, none, 0, Nat.zero_le _, Nat.le_refl _, rfl, rfl, rfl, Lib.hid (by simp [othTo, idx, holeL]), Lib.hid (World.ownsRow_nil _ _ _ _), Lib.hid rfl, Lib.hid (Below.refl _ _)⟩
                  case round =>
                    obtain ⟨j, q, W', b', cc', hj, hqj, rfl, rfl, rfl, HW1, HOQ, HQ, HU⟩ := hrel
                    have HWU := Lib.hid (next HWV.out HU.out)
                    have hsu := HU.out.size
                    by_cases hjm : j < m
                    · have hjL : j < L.length := by rw [HML.out]; exact hjm
                      have hjG : j < G.length := by rw [HGL.out]; exact hjm
                      obtain ⟨x', hx'⟩ : ∃ x', L[j] = x' := ⟨_, rfl⟩
                      have hAu := HAA.out.next HWU.out
                      have hCx' := hAu.at_ j hjL
                      rw [hx'] at hCx'
                      obtain ⟨d0, d1, d2, d3⟩ := hCx'
                      have f3' := (HU.out.cell (p := ⟨g6, i * 4 + 3, none⟩) (by show g6 < wC.heap.size; omega)).trans f3
                      obtain ⟨y', hy'⟩ : ∃ y', G[j] = y' := ⟨_, rfl⟩
                      have hyc' := (HWU.out.cell (p := ⟨gG, oG + j, none⟩) hgGA).trans (HGA.out j hjG)
                      rw [hy'] at hyc'
                      have HGY' : Hid (G.getD j ⟨#[]⟩ = y') := Lib.hid (getD_some ⟨hjG, hy'⟩)
                      have HRX' : Hid (rowAt L j = x'.row) := Lib.hid (by rw [rowAt_eq hjL, hx'])
                      have hqe' := empty_txt y'
                      have hg6u := hAu.lt
                      have hgGu : gG < wr.heap.size := Nat.lt_of_lt_of_le hgGA HWU.out.size
                      clear hx' hy' hjL hjG hAu
                      by_cases hij : j = i
                      · have hne : ((j : Int) != (i : Int)) = false := by simp [hij]
                        have HN1 : Hid (othTo L G i (j + 1) = othTo L G i j) := Lib.hid (oth_no (by simp [hij]))
                        clear hij
                        go_wp2_with fail
                        go_quiet (fail)
                        go_wp2
                        go_roundw
                        case rel => exact ⟨j + 1, q, W', b', cc', by omega, by omega, rfl, rfl, by go_num, Lib.hid (by rw [HN1.out]; exact HW1.out), Lib.hid (by rw [HN1.out]; exact HOQ.out.below (below_drewN (Below.refl _ _) _)), Lib.hid (by rw [HN1.out]; exact HQ.out), Lib.hid (below_drewN HU.out _)⟩
                        case measure => simp [intOf]; omega
                      · have hne : ((j : Int) != (i : Int)) = true := by simp; omega
                        cases hrr : (x'.row == x.row) with
                        | false =>
                          have HN1 : Hid (othTo L G i (j + 1) = othTo L G i j) := Lib.hid (oth_no (by rw [HRX'.out, HRX.out, hrr]; simp))
                          clear hij
                          go_wp2_with fail
                          go_quiet (fail)
                          go_wp2
                          go_roundw
                          case rel => exact ⟨j + 1, q, W', b', cc', by omega, by omega, rfl, rfl, by go_num, Lib.hid (by rw [HN1.out]; exact HW1.out), Lib.hid (by rw [HN1.out]; exact HOQ.out.below (below_drewN (Below.refl _ _) _)), Lib.hid (by rw [HN1.out]; exact HQ.out), Lib.hid (below_drewN HU.out _)⟩
                          case measure => simp [intOf]; omega
                        | true =>
                          have HN1 : Hid (othTo L G i (j + 1) = othTo L G i j ++ [y']) := Lib.hid (by rw [oth_yes (by rw [HRX'.out, HRX.out, hrr]; simp [hij]), HGY'.out])
                          have HM2 : Hid ((othTo L G i j ++ [y']).length = q + 1) := Lib.hid (by rw [List.length_append, HQ.out]; rfl)
                          clear hij
                          obtain ⟨yz, hyz⟩ : ∃ b, (y'.size == 0) = b := ⟨_, rfl⟩
                          rw [hyz] at hqe'
                          obtain ⟨Wn, hWn⟩ : ∃ b, (W' && !yz) = b := ⟨_, rfl⟩
                          have HWV2 := Lib.hid hWn
                          have HW2 : Hid (Wn = (Wh && !holeL (othTo L G i (j + 1)))) := Lib.hid (by rw [HN1.out, hole_snoc, hyz, ← hWn, HW1.out]; cases Wh <;> cases holeL (othTo L G i j) <;> cases yz <;> rfl)
                          clear hWn hyz
                          go_wp2_with fail
                          go_quiet (fail)
                          go_upto_region 24 with (first | (at_builtin; refine wpList_append_txt _ rfl _ _ rfl wC.heap.size _ _ _ [y'] _ (q + 1) rfl rfl rfl HM2.out ((HOQ.out.below (below_drewN (Below.refl _ _) _)).alloc _) (txt_at _ y' _ (by simp)) (by simp; omega) (by omega) ?_; intro b4 c4 w4 hO4 b04 s4))
                          have hyc4 : w4.cell? ⟨gG, oG + j, none⟩ = some (.string y') := by
                            rw [b04.cell (p := ⟨gG, oG + j, none⟩) (by show gG < wC.heap.size; omega), (boxed _ _).cell (p := ⟨gG, oG + j, none⟩) (by simp; omega)]
                            exact ((below_drewN (Below.refl wr.heap.size wr) _).cell (p := ⟨gG, oG + j, none⟩) hgGu).trans hyc'
                          have HO4 := Lib.hid hO4
                          have HB4 : Hid (Below wC.heap.size wC w4) := Lib.hid (((below_drewN HU.out _).alloc (by simp; omega) _).trans b04)
                          clear hO4 b04 s4 hyc'
                          cases Wn with
                          | true =>
                            obtain ⟨hc1, hc2⟩ : W' = true ∧ yz = false := by have := HWV2.out; cases W' <;> cases yz <;> simp at this ⊢
                            subst hc1
                            subst hc2
                            go_wp2
                            go_roundw
                            case rel => exact ⟨j + 1, q + 1, true, b4, c4, by omega, by omega, rfl, rfl, by go_num, HW2, Lib.hid (by rw [HN1.out]; exact HO4.out), Lib.hid (by rw [HN1.out]; exact HM2.out), HB4⟩
                            case measure => simp [intOf]; omega
                          | false =>
                            cases W' with
                            | true =>
                              have hc2 : yz = true := by have := HWV2.out; cases yz <;> simp at this ⊢
                              subst hc2
                              go_wp2
                              go_roundw
                              case rel => exact ⟨j + 1, q + 1, false, b4, c4, by omega, by omega, rfl, rfl, by go_num, HW2, Lib.hid (by rw [HN1.out]; exact HO4.out), Lib.hid (by rw [HN1.out]; exact HM2.out), HB4⟩
                              case measure => simp [intOf]; omega
                            | false =>
                              go_wp2
                              go_roundw
                              case rel => exact ⟨j + 1, q + 1, false, b4, c4, by omega, by omega, rfl, rfl, by go_num, HW2, Lib.hid (by rw [HN1.out]; exact HO4.out), Lib.hid (by rw [HN1.out]; exact HM2.out), HB4⟩
                              case measure => simp [intOf]; omega
                    · obtain rfl : j = m := by omega
                      have hw9 := HV.out.size
                      cases W' with
                      | true =>
                        have hWt : Wh = true ∧ holeL (othTo L G i j) = false := by
                          have := HW1.out
                          cases Wh <;> cases hh : holeL (othTo L G i j) <;> rw [hh] at this <;> simp at this ⊢
                        have HOKL : Hid (okL (othTo L G i j) = true) := Lib.hid (ok_of (n := 64) (fun x hx => by
                          rcases HOSZ.out j x hx with h0 | h1
                          · exact absurd h0 (no_hole hWt.2 hx)
                          · exact h1) HON2.out)
                        have HYP : Hid ((parB (othTo L G i j)).size = 64) := Lib.hid (by
                          rw [parB_size]
                          exact wide_of (fun x hx => by
                            rcases HOSZ.out j x hx with h0 | h1
                            · exact absurd h0 (no_hole hWt.2 hx)
                            · exact h1) HON2.out)
                        have HXO := Lib.hid (refXor_any (othTo L G i j) (.slice b' q cc') wr HOQ.out.txt (by rw [HQ.out]; unfold maxLen; omega) HOKL.out (fun s hs => by rcases HOSZ.out j s hs with h0 | h1 <;> omega))
                        have HC2 : Hid (clT true L G d (i + 1) = clT true L G d i ++ [parB (othTo L G i j)]) := Lib.hid (by rw [HC1.out, (mk_ok HOKL.out).1])
                        generalize parB (othTo L G i j) = yx at HXO HYP HC2
                        have hyx := HYP.out
                        have hqx : yx.toList.isEmpty = false := by rw [empty_txt, hyx]; rfl
                        have HWn : Hid (true = !holeL (clT true L G d (i + 1))) := Lib.hid (by
                          rw [HC2.out, hole_snoc, hyx]
                          have := HWH.out
                          rw [hWt.1] at this
                          simp at this ⊢
                          exact this)
                        have HSn : Hid (S ++ yx = joinB (clT true L G d (i + 1))) := Lib.hid (by rw [HC2.out, ← joinB_snoc, ← HSJ.out hWt.1])
                        have hSy : (S ++ yx).size ≤ 64 * (i + 1) := by rw [appT_size, hyx]; omega
                        go_wp2_with fail
                        refine HXO.out.mono ?_
                        rintro e' w9 ⟨rfl, c9⟩
                        have HB9 := Lib.hid (next (next HV.out HU.out) c9)
                        clear c9
                        go_wp2
                        go_roundw
                        case rel => exact ⟨i + 1, S ++ yx, true, true, by omega, hSy, rfl, rfl, rfl, by go_num, HOW1, HWn, Lib.hid (fun _ => HSn.out), HB9⟩
                        case measure => simp [intOf]; omega
                      | false =>
                        have HWn : Hid (false = !holeL (clT true L G d (i + 1))) := Lib.hid (by
                          rw [HC1.out, hole_snoc]
                          have h1 := HW1.out
                          have h2 := HWH.out
                          cases hh : holeL (othTo L G i j) with
                          | true =>
                            have : (mkB (othTo L G i j)).size = 0 := by
                              unfold holeL at hh
                              rw [List.any_eq_true] at hh
                              obtain ⟨x, hx, hx0⟩ := hh
                              exact mkB_hole hx (by simpa using hx0)
                            rw [this]
                            simp
                          | false =>
                            rw [hh] at h1
                            simp at h1
                            rw [h1] at h2
                            have : holeL (clT true L G d i) = true := by cases hq : holeL (clT true L G d i) <;> rw [hq] at h2 <;> simp at h2 ⊢
                            rw [this]
                            simp)
                        have hSy : (S ++ y).size ≤ 64 * (i + 1) := by rw [appT_size]; omega
                        go_wp2
                        go_roundw
                        case rel => exact ⟨i + 1, S ++ y, false, true, by omega, hSy, rfl, rfl, rfl, by go_num, HOW1, HWn, Lib.hid (fun h => by cases h), Lib.hid (next HV.out HU.out)⟩
                        case measure => simp [intOf]; omega
        · obtain rfl : i = m := by omega
          have HENT : Hid (entR p fst kk L G e = if Ow && Wh then some (if d < fst then -1 else d, S) else none) := Lib.hid (by
            unfold entR
            rw [← HD.out, HML.out, HO0.out, ← HOW.out, ← HWH.out]
            cases hW : Wh with
            | false => simp
            | true => rw [HSJ.out hW])
          have hdw : IntKind.i64.wrap (d + 1) = d + 1 := by rw [IntKind.wrap_i64]; omega
          have HD2 : Hid (d + 1 = fst - kk + ((e + 1 : Nat) : Int)) := Lib.hid (by rw [HD.out]; push_cast; omega)
          have hmeas : (fst + (u : Int) - (d + 1)).toNat < (fst + (u : Int) - d).toNat := by omega
          cases Ow with
          | false =>
            have HNX : Hid (trsTo p fst kk L G (e + 1) = trsTo p fst kk L G e) := Lib.hid (trsTo_none (by rw [HENT.out]; rfl))
            go_wp2
            go_roundw
            case rel => exact ⟨e + 1, nO, b, cc, d + 1, by omega, by omega, rfl, rfl, HD2.out, Lib.hid (by rw [HNX.out]; exact HO.out.below HV.out), Lib.hid (by rw [HNX.out]; exact HON.out), HWV⟩
            case measure => simpa [intOf] using hmeas
          | true =>
            cases Wh with
            | false =>
              have HNX : Hid (trsTo p fst kk L G (e + 1) = trsTo p fst kk L G e) := Lib.hid (trsTo_none (by rw [HENT.out]; rfl))
              go_wp2
              go_roundw
              case rel => exact ⟨e + 1, nO, b, cc, d + 1, by omega, by omega, rfl, rfl, HD2.out, Lib.hid (by rw [HNX.out]; exact HO.out.below HV.out), Lib.hid (by rw [HNX.out]; exact HON.out), HWV⟩
              case measure => simpa [intOf] using hmeas
            | true =>
              cases O0 with
              | true =>
                have hlt' : d < fst := of_decide_eq_true HO0.out
                have HNX : Hid (trsTo p fst kk L G (e + 1) = trsTo p fst kk L G e ++ [(-1, S)]) := Lib.hid (trsTo_some (by rw [HENT.out, if_pos (show (true && true) = true from rfl), if_pos hlt']))
                have hdb : decide (d < fst) = true := HO0.out
                clear hlt'
                have HLE : Hid ((trsTo p fst kk L G e).length ≤ 100000) := Lib.hid (by rw [HON.out]; rcases kk01 with rfl | rfl <;> omega)
                have hpr := new_pair wr (.int .i64 (-1)) (.string S) 115
                go_wp2_with (first | (at_builtin; refine wpList_append_try _ rfl _ _ rfl wA.heap.size _ _ ((-1), S) _ _ rfl rfl ((HO.out.below HV.out).below (boxed _ _)) hpr.1 hpr.2 (by simp; omega) HLE.out ?_; intro v4 w4 hO4 b04 s4; obtain ⟨a4, c4, e4⟩ := hO4.isSl; rw [List.length_append, HON.out] at e4; subst e4))
                go_roundw
                case rel => exact ⟨e + 1, nO + 1, a4, c4, d + 1, by omega, by omega, rfl, rfl, HD2.out, Lib.hid (by rw [HNX.out]; exact hO4), Lib.hid (by rw [HNX.out, List.length_append, HON.out]; rfl), Lib.hid ((grows_alloc HWV.out _).trans b04)⟩
                case measure => simpa [intOf] using hmeas
              | false =>
                have hlt' : ¬ d < fst := of_decide_eq_false HO0.out
                have HNX : Hid (trsTo p fst kk L G (e + 1) = trsTo p fst kk L G e ++ [(d, S)]) := Lib.hid (trsTo_some (by rw [HENT.out, if_pos (show (true && true) = true from rfl), if_neg hlt']))
                have hdb : decide (d < fst) = false := HO0.out
                clear hlt'
                have HLE : Hid ((trsTo p fst kk L G e).length ≤ 100000) := Lib.hid (by rw [HON.out]; rcases kk01 with rfl | rfl <;> omega)
                have hpr := new_pair wr (.int .i64 d) (.string S) 115
                go_wp2_with (first | (at_builtin; refine wpList_append_try _ rfl _ _ rfl wA.heap.size _ _ (d, S) _ _ rfl rfl ((HO.out.below HV.out).below (boxed _ _)) hpr.1 hpr.2 (by simp; omega) HLE.out ?_; intro v4 w4 hO4 b04 s4; obtain ⟨a4, c4, e4⟩ := hO4.isSl; rw [List.length_append, HON.out] at e4; subst e4))
                go_roundw
                case rel => exact ⟨e + 1, nO + 1, a4, c4, d + 1, by omega, by omega, rfl, rfl, HD2.out, Lib.hid (by rw [HNX.out]; exact hO4), Lib.hid (by rw [HNX.out, List.length_append, HON.out]; rfl), Lib.hid ((grows_alloc HWV.out _).trans b04)⟩
                case measure => simpa [intOf] using hmeas
    · have hdl : decide (d < fst + (u : Int)) = false := decide_eq_false (by rcases kk01 with rfl | rfl <;> omega)
      obtain rfl : e = Et := by omega
      go_wp2
      go_ret
      refine ⟨_, rfl, ?_, HWA.out.trans (HW.out.mono HWA.out.size)⟩
      rw [← HFIN.out]
      exact HO.out.lower HWA.out.size
end Go.Proofs.YtiffkbmcikiioaaGreat

/-
  The document's Encode (polderref07).
-/
namespace Go.Proofs.YtiffkbmcikiioaaGreat
set_option maxRecDepth 100000
open Go.RowKit M

def mrow (M : List (Int × Bool)) (j : Nat) : Int := (M.getD j (0, false)).1
def mpar (M : List (Int × Bool)) (j : Nat) : Bool := (M.getD j (0, false)).2
def mdct (M : List (Int × Bool)) (k : Nat) : Nat := (M.take k).countP fun c => !c.2
/-- Is the column p behind the next one of column i's row, and data? -/
def contB (M : List (Int × Bool)) (i p : Nat) : Bool := decide (i + 1 + p < M.length) && (mrow M (i + 1 + p) == mrow M i) && !mpar M (i + 1 + p)
def rowsB (M : List (Int × Bool)) (i : Nat) : List Nat := ((List.range M.length).filter fun j => !mpar M j && mrow M j == mrow M i).map (mdct M)
/-- The data behind a parity, of its row, are all data of its row. -/
def encOKB (M : List (Int × Bool)) : Bool := (List.range M.length).all fun i => !mpar M i || (List.range 7).all fun q => !((List.range q).all (contB M i)) || contB M i q || decide (rowsB M i = (List.range q).map (mdct M i + ·))
theorem mrow_eq (L : List C) (j : Nat) : mrow (L.map rp) j = rowAt L j := by
  unfold mrow rowAt
  rw [List.getD_eq_getElem?_getD, List.getElem?_map]
  cases L[j]? <;> rfl
theorem mpar_eq (L : List C) (j : Nat) : mpar (L.map rp) j = parAt L j := by
  unfold mpar parAt
  rw [List.getD_eq_getElem?_getD, List.getElem?_map]
  cases L[j]? <;> rfl
theorem mdct_eq (L : List C) (k : Nat) : mdct (L.map rp) k = dct L k := by
  unfold mdct dct
  rw [← List.map_take, List.countP_map]
  rfl
theorem par_encOK : ∀ u : Nat, u < 9 → 3 ≤ u → ∀ z : Nat, z < 5 → 1 ≤ z → encOKB ((parTo 0 0 u z).map rp) = true := by
  intro u h9 h3 z h5 h1
  rcases (show u = 3 ∨ u = 4 ∨ u = 5 ∨ u = 6 ∨ u = 7 ∨ u = 8 by omega) with rfl | rfl | rfl | rfl | rfl | rfl <;> rcases (show z = 1 ∨ z = 2 ∨ z = 3 ∨ z = 4 by omega) with rfl | rfl | rfl | rfl <;> decide
def contL (L : List C) (i p : Nat) : Bool := decide (i + 1 + p < L.length) && (rowAt L (i + 1 + p) == rowAt L i) && !parAt L (i + 1 + p)
section
variable {l : List (Int × Int)} {sc : Int} {k t z : Nat} {s : ByteArray} {kk : Int} {u : Nat} {L : List C} {f : Nat → ByteArray}
theorem Enc7.par (h : Enc7 l sc k t z s kk u L f) (h1 : kk = 1) : L = parTo (aheadL l k) t u z ∧ 3 ≤ u ∧ u ≤ 8 := by
  rcases h.kind.ok with h2 | h2
  · exact absurd (h1.symm.trans h2.1) (by decide)
  · exact ⟨h2.2.2.2.1, h2.2.1, h2.2.2.1⟩
theorem Enc7.six (h : Enc7 l sc k t z s kk u L f) (h1 : kk = 1) : L.length ≤ 6 := by
  obtain ⟨e, h3, h8⟩ := h.par h1
  rw [e, parTo_len0]
  exact (par_fits u (by omega) h3 z (by have := h.blk.z4; omega) h.blk.z1).2.2
theorem Enc7.follow (h : Enc7 l sc k t z s kk u L f) (h1 : kk = 1) {i q : Nat} (hi : i < L.length) (hp : parAt L i = true) (hq : q < 7) (hc : ∀ p, p < q → contL L i p = true) (hn : contL L i q = false) : rowD L f (rowAt L i) L.length = (List.range q).map fun p => f (dct L i + p) := by
  have hM : encOKB (L.map rp) = true := by
    obtain ⟨e, h3, h8⟩ := h.par h1
    rw [e, parTo_shape]
    exact par_encOK u (by omega) h3 z (by have := h.blk.z4; omega) h.blk.z1
  have hcb : ∀ p, contB (L.map rp) i p = contL L i p := fun p => by
    unfold contB contL
    rw [mrow_eq, mrow_eq, mpar_eq, List.length_map]
  unfold encOKB at hM
  rw [List.all_eq_true] at hM
  have h2 := hM i (List.mem_range.2 (by rw [List.length_map]; exact hi))
  rw [mpar_eq, hp, Bool.not_true, Bool.false_or, List.all_eq_true] at h2
  have h3 := h2 q (List.mem_range.2 hq)
  have hall : (List.range q).all (contB (L.map rp) i) = true := by
    rw [List.all_eq_true]
    intro p hp
    rw [hcb]
    exact hc p (List.mem_range.1 hp)
  rw [hall, hcb, hn, Bool.not_true, Bool.false_or, Bool.false_or, decide_eq_true_iff] at h3
  have h4 : (idx (fun j => !parAt L j && rowAt L j == rowAt L i) L.length).map (dct L) = (List.range q).map (dct L i + ·) := by
    unfold rowsB at h3
    rw [List.length_map] at h3
    rw [show (fun j => !mpar (L.map rp) j && mrow (L.map rp) j == mrow (L.map rp) i) = fun j => !parAt L j && rowAt L j == rowAt L i from funext fun j => by rw [mpar_eq, mrow_eq, mrow_eq]] at h3
    rw [show mdct (L.map rp) = dct L from funext fun j => mdct_eq L j] at h3
    exact h3
  unfold rowD
  have h5 := congrArg (List.map f) h4
  rw [List.map_map, List.map_map] at h5
  exact h5
theorem dct_run {i : Nat} (hi : i < L.length) (hp : parAt L i = true) : ∀ q, (∀ p, p < q → contL L i p = true) → dct L (i + 1 + q) = dct L i + q := by
  intro q
  induction q with
  | zero =>
    intro _
    have := dct_succ hi
    rw [← parAt_eq hi, hp] at this
    exact this
  | succ q ih =>
    intro h
    have hc := h q (by omega)
    unfold contL at hc
    rw [Bool.and_eq_true, Bool.and_eq_true, decide_eq_true_iff] at hc
    have hpar : parAt L (i + 1 + q) = false := by simpa using hc.2
    have := dct_succ hc.1.1
    rw [← parAt_eq hc.1.1, hpar, ih fun p hp => h p (by omega)] at this
    exact this
theorem Enc7.inData (h : Enc7 l sc k t z s kk u L f) (h1 : kk = 1) {i q : Nat} (hi : i < L.length) (hp : parAt L i = true) (hc : ∀ p, p < q + 1 → contL L i p = true) : dct L i + q < z := by
  have h2 := dct_run hi hp (q + 1) hc
  have h3 := hc q (by omega)
  unfold contL at h3
  rw [Bool.and_eq_true, Bool.and_eq_true, decide_eq_true_iff] at h3
  have h4 := dct_mono (L := L) (show i + 1 + (q + 1) ≤ L.length by omega)
  rw [h.dataN h1] at h4
  omega
end
end Go.Proofs.YtiffkbmcikiioaaGreat

/-
  The document's Encode (polderref07): the walk.
-/
namespace Go.Proofs.YtiffkbmcikiioaaGreat
set_option maxRecDepth 100000
open Go.RowKit M

def encTo (L : List C) (f : Nat → ByteArray) (i : Nat) : List ByteArray := (List.range i).map (encAt L f)
theorem encTo_succ (L : List C) (f : Nat → ByteArray) (i : Nat) : encTo L f (i + 1) = encTo L f i ++ [encAt L f i] := by unfold encTo; rw [List.range_succ, List.map_append]; rfl
theorem encTo_len (L : List C) (f : Nat → ByteArray) (i : Nat) : (encTo L f i).length = i := by simp [encTo]
def runTo (f : Nat → ByteArray) (n q : Nat) : List ByteArray := (List.range q).map fun p => f (n + p)
theorem runTo_succ (f : Nat → ByteArray) (n q : Nat) : runTo f n (q + 1) = runTo f n q ++ [f (n + q)] := by unfold runTo; rw [List.range_succ, List.map_append]; rfl
theorem runTo_len (f : Nat → ByteArray) (n q : Nat) : (runTo f n q).length = q := by simp [runTo]

set_option maxHeartbeats 8000000 in
theorem refEncode_any (l : List (Int × Int)) (sc : Int) (v : Value) (w : World) (h : Meas w v l sc) (k t z : Nat) (s : ByteArray) (kk : Int) (u : Nat) (L : List C) (f : Nat → ByteArray) (hE : Enc7 l sc k t z s kk u L f) :
    Calls Tryz.prog 24 #[v, .agg #[.int .i64 (k : Int), .int .i64 (t : Int)], .string s] w fun e w' => ∃ v', e = .returned v' ∧ Own w' w.heap.size v' (encL L f) ∧ Below w.heap.size w w' := by
  have K1 := h
  obtain ⟨a, n, c, rfl, hg⟩ := id h
  replace K1 := Lib.hid (HeldP.start (k : Int) (t : Int) K1)
  have hs4 : s.size ≤ 256 := by have := hE.hs; have := hE.blk.z4; omega
  have hcz : z ≤ 4 := hE.blk.z4
  have hcz1 := hE.blk.z1
  have q4 : Int.tdiv (s.size : Int) 64 = (z : Int) := by rw [Int.tdiv_eq_ediv_of_nonneg (by omega)]; have := hE.hs; omega
  have HOF := Lib.hid (refOf_any l sc _ _ K1.out.h.m k t z hE.blk)
  rw [hE.hL] at HOF
  obtain ⟨hm0, hm32⟩ := hE.few
  obtain ⟨m, hm⟩ : ∃ m, L.length = m := ⟨_, rfl⟩
  rw [hm] at hm0 hm32
  have HML := Lib.hid hm
  have HE := Lib.hid hE
  have hszs : z * 64 = s.size := hE.hs.symm
  obtain ⟨S, hS⟩ : ∃ S, s.size = S := ⟨_, rfl⟩
  rw [hS] at q4 hs4 hszs
  have r3 : ¬ (z : Int) = 0 := by omega
  have r4 : ((z : Int) == 0) = false := by simp; omega
  clear h hg hE hm
  go_enter Tryz.func24, Tryz.ntmps24
  go_wp2_with fail
  refine HOF.out.mono ?_
  rintro e w2 ⟨v2, rfl, hO2, b2⟩
  obtain ⟨g6, cc6, rfl, hcc6, hg6B, hA6⟩ := OwnC.some hO2 (by rw [HML.out]; exact hm0)
  rw [HML.out] at hcc6 ⊢
  have HA6 := Lib.hid hA6
  have hg6 := hA6.lt
  have HW2 := Lib.hid (next K1.out.h.below b2)
  clear hO2 hA6 b2 K1 HOF
  go_wp2_with fail
  go_loopw [8, 9, 10] (fun t8 t9 i10 wr => ∃ (i d : Nat) (b : Option Addr) (cc : Nat), i ≤ m ∧ d ≤ i ∧ t8 = .slice b i cc ∧ t9 = .int .i64 (d : Int) ∧ i10 = .int .i64 (i : Int) ∧ Hid (dct L i = d) ∧ Hid (Own wr w2.heap.size (.slice b i cc) (encTo L f i)) ∧ Hid (Below w2.heap.size w2 wr)) (fun _ _ i _ => m - (intOf i).toNat)
  case atStart => exact ⟨0, 0, none, 0, Nat.zero_le _, Nat.le_refl _, rfl, rfl, rfl, Lib.hid (by simp [dct]), Lib.hid (World.ownsRow_nil _ _ _ _), Lib.hid (Below.refl _ _)⟩
  case round =>
    obtain ⟨i, d, b, cc, hi, hdi, rfl, rfl, rfl, HD, HO, HW⟩ := hrel
    have hsr := HW.out.size
    by_cases him : i < m
    · have hiL : i < L.length := by rw [HML.out]; exact him
      obtain ⟨x, hx⟩ : ∃ x, L[i] = x := ⟨_, rfl⟩
      have hCx := (HA6.out.at_ i hiL).below hg6 HW.out
      rw [hx] at hCx
      obtain ⟨e0, e1, e2, e3⟩ := hCx
      have HPX : Hid (parAt L i = x.par) := Lib.hid (by rw [parAt_eq hiL, hx])
      have HRX : Hid (rowAt L i = x.row) := Lib.hid (by rw [rowAt_eq hiL, hx])
      have HIL := Lib.hid hiL
      have HM1 : Hid ((encTo L f i ++ [encAt L f i]).length = i + 1) := Lib.hid (by rw [List.length_append, encTo_len]; rfl)
      clear hx hiL
      cases hp : x.par with
      | false =>
        rw [hp] at e2
        obtain ⟨y, hy⟩ : ∃ y, encAt L f i = y := ⟨_, rfl⟩
        have hd1 : dct L (i + 1) = d + 1 := by rw [dct_succ HIL.out, ← parAt_eq HIL.out, HPX.out, hp, HD.out]; rfl
        have HD1 := Lib.hid hd1
        obtain ⟨q, hq⟩ : ∃ q, d % z = q := ⟨_, rfl⟩
        have hqz : q < z := by rw [← hq]; exact Nat.mod_lt _ hcz1
        have r1 : Int.tmod (d : Int) (z : Int) = (q : Int) := by rw [Int.tmod_eq_emod_of_nonneg (by omega), ← hq]; rfl
        have HYS : Hid (s.extract (64 * q) (64 * q + 64) = y) := Lib.hid (by
          rw [← hy]
          unfold encAt
          rw [HPX.out, hp, HD.out]
          have h1 := HE.out.mod (d / z) q hqz
          have h2 : d / z * z + q = d := by rw [← hq, Nat.mul_comm]; exact Nat.div_add_mod d z
          rw [h2] at h1
          show _ = f d
          rw [h1]
          unfold sect
          congr 1 <;> omega)
        have a1 : (64 * (q : Int)).toNat = 64 * q := by omega
        have a2 : (64 * (q : Int) + 64).toNat = 64 * q + 64 := by omega
        have a3 : 64 * (q : Int) + 64 ≤ (S : Int) := by omega
        have a4 : IntKind.i64.wrap (64 * (q : Int)) = 64 * (q : Int) := by rw [IntKind.wrap_i64]; omega
        have a5 : IntKind.i64.wrap (64 * (q : Int) + 64) = 64 * (q : Int) + 64 := by rw [IntKind.wrap_i64]; omega
        have HNX : Hid (encTo L f (i + 1) = encTo L f i ++ [y]) := Lib.hid (by rw [encTo_succ, hy])
        rw [hy] at HM1
        clear hp HPX HRX hy hd1 hq
        go_wp2_with (first | (at_builtin; refine wpList_append_txt _ rfl _ _ rfl w2.heap.size _ _ _ [y] _ (i + 1) rfl rfl rfl HM1.out (HO.out.alloc _) (by rw [HYS.out]; exact txt_at _ y _ (by simp)) (by simp; omega) (by omega) ?_; intro b4 c4 w4 hO4 b04 s4))
        go_roundw
        case rel => exact ⟨i + 1, d + 1, b4, c4, by omega, by omega, rfl, by go_num, by go_num, HD1, Lib.hid (by rw [HNX.out]; exact hO4), Lib.hid ((grows_alloc HW.out _).trans b04)⟩
        case measure => simp [intOf]; omega
      | true =>
        rw [hp] at e2
        have hk1 : kk = 1 := by
          rcases HE.out.kind.ok with h0 | h1
          · have := HE.out.noPar h0.1 HIL.out
            rw [HPX.out, hp] at this
            cases this
          · exact h1.1
        have hd1 : dct L (i + 1) = d := by rw [dct_succ HIL.out, ← parAt_eq HIL.out, HPX.out, hp, HD.out]; rfl
        have HD1 := Lib.hid hd1
        have hm6 : m ≤ 6 := by rw [← HML.out]; exact HE.out.six hk1
        have HK1 := Lib.hid hk1
        have HPP : Hid (parAt L i = true) := Lib.hid (by rw [HPX.out]; exact hp)
        obtain ⟨r, hr⟩ : ∃ r, x.row = r := ⟨_, rfl⟩
        rw [hr] at e3 HRX
        clear hp HPX hd1 hk1 hr
        go_wp2_with fail
        rename World => w7
        go_loopw [11, 12] (fun t11 i12 wr => ∃ (q : Nat) (b' : Option Addr) (cc' : Nat), i + 1 + q ≤ m ∧ t11 = .slice b' q cc' ∧ i12 = .int .i64 (q : Int) ∧ Hid (∀ p, p < q → contL L i p = true) ∧ Hid (Own wr w7.heap.size (.slice b' q cc') (runTo f d q)) ∧ Hid (Below w7.heap.size w7 wr)) (fun _ i _ => m - (intOf i).toNat)
        case atStart => exact ⟨0, none, 0, by omega, rfl, rfl, Lib.hid (fun p hp => absurd hp (Nat.not_lt_zero _)), Lib.hid (World.ownsRow_nil _ _ _ _), Lib.hid (Below.refl _ _)⟩
        case round =>
          obtain ⟨q, b', cc', hq, rfl, rfl, HC, HOQ, HV⟩ := hrel
          have hsv := HV.out.size
          have HWV := Lib.hid (next HW.out HV.out)
          obtain ⟨J, hJ⟩ : ∃ J, i + 1 + q = J := ⟨_, rfl⟩
          have w1 : IntKind.i64.wrap ((i : Int) + 1) = (i : Int) + 1 := by rw [IntKind.wrap_i64]; omega
          have w2' : IntKind.i64.wrap ((i : Int) + 1 + (q : Int)) = (J : Int) := by rw [IntKind.wrap_i64]; omega
          have e3' := (HV.out.cell (p := ⟨g6, i * 4 + 3, none⟩) (by show g6 < w7.heap.size; omega)).trans e3
          by_cases hJm : J < m
          · have hJL : J < L.length := by rw [HML.out]; exact hJm
            have hd0 : decide ((J : Int) < (m : Int)) = true := decide_eq_true (by omega)
            obtain ⟨x', hx'⟩ : ∃ x', L[J] = x' := ⟨_, rfl⟩
            have hCx' := (HA6.out.at_ J hJL).below hg6 HWV.out
            rw [hx'] at hCx'
            obtain ⟨f0, f1, f2, f3⟩ := hCx'
            have HCT : Hid (contL L i q = ((x'.row == r) && !x'.par)) := Lib.hid (by
              unfold contL
              rw [hJ, HRX.out, rowAt_eq hJL, parAt_eq hJL, hx', decide_eq_true hJL, Bool.true_and])
            have hgw : g6 < wr.heap.size := by omega
            clear hx' hJL
            cases hrb : (x'.row == r) with
            | false =>
              have HCN : Hid (contL L i q = false) := Lib.hid (by rw [HCT.out, hrb]; rfl)
              clear HCT
              go_wp2_with fail
              go_quiet (fail)
              have HRO : Hid (rowD L f (rowAt L i) L.length = runTo f d q) := Lib.hid (by
                have := HE.out.follow HK1.out HIL.out HPP.out (by omega) HC.out HCN.out
                rw [HD.out] at this
                exact this)
              have HOKL : Hid (okL (runTo f d q) = true) := Lib.hid (by rw [← HRO.out]; exact ok_of (rowD_sz HE.out.hf) (HE.out.rowNe HK1.out HIL.out))
              have HYV : Hid (encAt L f i = parB (runTo f d q)) := Lib.hid (by
                unfold encAt
                rw [HPP.out, if_pos rfl, HRO.out, (mk_ok HOKL.out).1])
              have HXO := Lib.hid (refXor_any (runTo f d q) (.slice b' q cc') _ (HOQ.out.txt.below (below_drewN (Below.refl _ _) nq)) (by rw [runTo_len]; unfold maxLen; omega) HOKL.out (fun s hs => by
                obtain ⟨p, _, rfl⟩ := List.mem_map.1 hs
                rw [HE.out.hf]
                decide))
              generalize parB (runTo f d q) = y at HYV HXO
              have HNX : Hid (encTo L f (i + 1) = encTo L f i ++ [y]) := Lib.hid (by rw [encTo_succ, HYV.out])
              have HM2 : Hid ((encTo L f i ++ [y]).length = i + 1) := Lib.hid (by rw [List.length_append, encTo_len]; rfl)
              go_wp2_with fail
              refine HXO.out.mono ?_
              rintro e w9 ⟨rfl, c9⟩
              have HB9 : Hid (Below w7.heap.size w7 w9) := Lib.hid (next (below_drewN HV.out _) c9)
              have hs9 := HB9.out.size
              have HO9 := Lib.hid (HO.out.below HB9.out)
              clear c9
              go_wp2_with (first | (at_builtin; refine wpList_append_txt _ rfl _ _ rfl w2.heap.size _ _ _ [y] _ (i + 1) rfl rfl rfl HM2.out (HO9.out.alloc _) (txt_at _ y _ (by simp)) (by simp; omega) (by omega) ?_; intro b4 c4 w4 hO4 b04 s4))
              go_roundw
              case rel => exact ⟨i + 1, d, b4, c4, by omega, by omega, rfl, rfl, by go_num, HD1, Lib.hid (by rw [HNX.out]; exact hO4), Lib.hid ((grows_alloc (next HW.out HB9.out) _).trans b04)⟩
              case measure => simp [intOf]; omega
            | true =>
              cases hpb : x'.par with
              | true =>
                rw [hpb] at f2
                have HCN : Hid (contL L i q = false) := Lib.hid (by rw [HCT.out, hrb, hpb]; rfl)
                clear HCT
                go_wp2_with fail
                go_quiet (fail)
                have HRO : Hid (rowD L f (rowAt L i) L.length = runTo f d q) := Lib.hid (by
                  have := HE.out.follow HK1.out HIL.out HPP.out (by omega) HC.out HCN.out
                  rw [HD.out] at this
                  exact this)
                have HOKL : Hid (okL (runTo f d q) = true) := Lib.hid (by rw [← HRO.out]; exact ok_of (rowD_sz HE.out.hf) (HE.out.rowNe HK1.out HIL.out))
                have HYV : Hid (encAt L f i = parB (runTo f d q)) := Lib.hid (by
                  unfold encAt
                  rw [HPP.out, if_pos rfl, HRO.out, (mk_ok HOKL.out).1])
                have HXO := Lib.hid (refXor_any (runTo f d q) (.slice b' q cc') _ (HOQ.out.txt.below (below_drewN (Below.refl _ _) nq)) (by rw [runTo_len]; unfold maxLen; omega) HOKL.out (fun s hs => by
                  obtain ⟨p, _, rfl⟩ := List.mem_map.1 hs
                  rw [HE.out.hf]
                  decide))
                generalize parB (runTo f d q) = y at HYV HXO
                have HNX : Hid (encTo L f (i + 1) = encTo L f i ++ [y]) := Lib.hid (by rw [encTo_succ, HYV.out])
                have HM2 : Hid ((encTo L f i ++ [y]).length = i + 1) := Lib.hid (by rw [List.length_append, encTo_len]; rfl)
                go_wp2_with fail
                refine HXO.out.mono ?_
                rintro e w9 ⟨rfl, c9⟩
                have HB9 : Hid (Below w7.heap.size w7 w9) := Lib.hid (next (below_drewN HV.out _) c9)
                have hs9 := HB9.out.size
                have HO9 := Lib.hid (HO.out.below HB9.out)
                clear c9
                go_wp2_with (first | (at_builtin; refine wpList_append_txt _ rfl _ _ rfl w2.heap.size _ _ _ [y] _ (i + 1) rfl rfl rfl HM2.out (HO9.out.alloc _) (txt_at _ y _ (by simp)) (by simp; omega) (by omega) ?_; intro b4 c4 w4 hO4 b04 s4))
                go_roundw
                case rel => exact ⟨i + 1, d, b4, c4, by omega, by omega, rfl, rfl, by go_num, HD1, Lib.hid (by rw [HNX.out]; exact hO4), Lib.hid ((grows_alloc (next HW.out HB9.out) _).trans b04)⟩
                case measure => simp [intOf]; omega
              | false =>
                rw [hpb] at f2
                have HCY : Hid (∀ p, p < q + 1 → contL L i p = true) := Lib.hid fun p hp => by
                  by_cases e : p = q
                  · subst e; rw [HCT.out, hrb, hpb]; rfl
                  · exact HC.out p (by omega)
                have hdq := HE.out.inData HK1.out HIL.out HPP.out HCY.out
                rw [HD.out] at hdq
                obtain ⟨D', hD'⟩ : ∃ D', d + q = D' := ⟨_, rfl⟩
                rw [hD'] at hdq
                have w3 : IntKind.i64.wrap ((d : Int) + (q : Int)) = (D' : Int) := by rw [IntKind.wrap_i64]; omega
                have w4 : IntKind.i64.wrap ((D' : Int) + 1) = (D' : Int) + 1 := by rw [IntKind.wrap_i64]; omega
                have w5 : IntKind.i64.wrap (64 * (D' : Int)) = 64 * (D' : Int) := by rw [IntKind.wrap_i64]; omega
                have w6 : IntKind.i64.wrap (64 * ((D' : Int) + 1)) = 64 * ((D' : Int) + 1) := by rw [IntKind.wrap_i64]; omega
                have a1 : (64 * (D' : Int)).toNat = 64 * D' := by omega
                have a2 : (64 * ((D' : Int) + 1)).toNat = 64 * D' + 64 := by omega
                have a3 : 64 * ((D' : Int) + 1) ≤ (S : Int) := by omega
                have a4 : 64 * (D' : Int) ≤ 64 * ((D' : Int) + 1) := by omega
                have HYS : Hid (s.extract (64 * D') (64 * D' + 64) = f D') := Lib.hid (by
                  rw [HE.out.sec D' hdq]
                  unfold sect
                  congr 1 <;> omega)
                have HNX : Hid (runTo f d (q + 1) = runTo f d q ++ [f D']) := Lib.hid (by rw [runTo_succ, hD'])
                generalize f D' = y at HYS HNX
                have HM2 : Hid ((runTo f d q ++ [y]).length = q + 1) := Lib.hid (by rw [List.length_append, runTo_len]; rfl)
                clear HCT hD'
                go_wp2_with fail
                go_quiet (fail)
                go_wp2_with (first | (at_builtin; refine wpList_append_txt _ rfl _ _ rfl w7.heap.size _ _ _ [y] _ (q + 1) rfl rfl rfl HM2.out ((HOQ.out.below (below_drewN (Below.refl _ _) _)).alloc _) (by rw [HYS.out]; exact txt_at _ y _ (by simp)) (by simp; omega) (by omega) ?_; intro b4 c4 w4 hO4 b04 s4))
                go_roundw
                case rel => exact ⟨q + 1, b4, c4, by omega, rfl, by go_num, HCY, Lib.hid (by rw [HNX.out]; exact hO4), Lib.hid (((below_drewN HV.out _).alloc (by simp; omega) _).trans b04)⟩
                case measure => simp [intOf]; omega
          · have hd0 : decide ((J : Int) < (m : Int)) = false := decide_eq_false (by omega)
            have HCN : Hid (contL L i q = false) := Lib.hid (by
              unfold contL
              rw [hJ, HML.out, decide_eq_false hJm]
              rfl)
            go_wp2_with fail
            go_quiet (fail)
            have HRO : Hid (rowD L f (rowAt L i) L.length = runTo f d q) := Lib.hid (by
              have := HE.out.follow HK1.out HIL.out HPP.out (by omega) HC.out HCN.out
              rw [HD.out] at this
              exact this)
            have HOKL : Hid (okL (runTo f d q) = true) := Lib.hid (by rw [← HRO.out]; exact ok_of (rowD_sz HE.out.hf) (HE.out.rowNe HK1.out HIL.out))
            have HYV : Hid (encAt L f i = parB (runTo f d q)) := Lib.hid (by
              unfold encAt
              rw [HPP.out, if_pos rfl, HRO.out, (mk_ok HOKL.out).1])
            have HXO := Lib.hid (refXor_any (runTo f d q) (.slice b' q cc') _ (HOQ.out.txt.below (below_drewN (Below.refl _ _) nq)) (by rw [runTo_len]; unfold maxLen; omega) HOKL.out (fun s hs => by
              obtain ⟨p, _, rfl⟩ := List.mem_map.1 hs
              rw [HE.out.hf]
              decide))
            generalize parB (runTo f d q) = y at HYV HXO
            have HNX : Hid (encTo L f (i + 1) = encTo L f i ++ [y]) := Lib.hid (by rw [encTo_succ, HYV.out])
            have HM2 : Hid ((encTo L f i ++ [y]).length = i + 1) := Lib.hid (by rw [List.length_append, encTo_len]; rfl)
            go_wp2_with fail
            refine HXO.out.mono ?_
            rintro e w9 ⟨rfl, c9⟩
            have HB9 : Hid (Below w7.heap.size w7 w9) := Lib.hid (next (below_drewN HV.out _) c9)
            have hs9 := HB9.out.size
            have HO9 := Lib.hid (HO.out.below HB9.out)
            clear c9
            go_wp2_with (first | (at_builtin; refine wpList_append_txt _ rfl _ _ rfl w2.heap.size _ _ _ [y] _ (i + 1) rfl rfl rfl HM2.out (HO9.out.alloc _) (txt_at _ y _ (by simp)) (by simp; omega) (by omega) ?_; intro b4 c4 w4 hO4 b04 s4))
            go_roundw
            case rel => exact ⟨i + 1, d, b4, c4, by omega, by omega, rfl, rfl, by go_num, HD1, Lib.hid (by rw [HNX.out]; exact hO4), Lib.hid ((grows_alloc (next HW.out HB9.out) _).trans b04)⟩
            case measure => simp [intOf]; omega
    · obtain rfl : i = m := by omega
      go_wp2
      go_ret
      refine ⟨_, rfl, ?_, HW2.out.trans (HW.out.mono HW2.out.size)⟩
      have e : encTo L f i = encL L f := by unfold encTo encL; rw [HML.out]
      rw [← e]
      exact HO.out.lower HW2.out.size
end Go.Proofs.YtiffkbmcikiioaaGreat
