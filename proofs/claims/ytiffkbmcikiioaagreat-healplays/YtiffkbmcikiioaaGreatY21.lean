/-
  Blocks as columns, and what columns may come to: plain facts (no program is named here).
  code's small calls: a sector, a list that lacks one, texts one behind the other.
  code.again, code.without: a column made again; a device's columns made again.
-/
import Derived.Test.YtiffkbmcikiioaaGreatY14
import Derived.Test.YtiffkbmcikiioaaGreatY06
import Derived.Test.YtiffkbmcikiioaaGreatY20
import Derived.Test.YtiffkbmcikiioaaGreatY10

/- Blocks as columns, and what columns may come to: plain facts (no program is named here). -/
namespace Go.Proofs.YtiffkbmcikiioaaGreat
set_option maxRecDepth 100000
open M

/-- The i-th sector of a text. -/
def sect (s : ByteArray) (i : Nat) : ByteArray := s.extract (i * 64) ((i + 1) * 64)
theorem sect_size {s : ByteArray} {i z : Nat} (hs : s.size = z * 64) (hi : i < z) : (sect s i).size = 64 := by
  unfold sect; rw [ByteArray.size_extract]; omega
/-- Texts one behind the other. -/
def joinB (l : List ByteArray) : ByteArray := ⟨(l.flatMap fun s => s.data.toList).toArray⟩
theorem joinB_list (l : List ByteArray) : (joinB l).data.toList = l.flatMap fun s => s.data.toList := by simp [joinB]
theorem joinB_nil : joinB [] = ⟨#[]⟩ := rfl
theorem joinB_one (s : ByteArray) : joinB [s] = s := extL (by rw [joinB_list]; simp)
theorem joinB_snoc (l : List ByteArray) (s : ByteArray) : joinB l ++ s = joinB (l ++ [s]) := extL (by rw [joinB_list, ByteArray.data_append, Array.toList_append, joinB_list]; simp)
theorem joinB_size {l : List ByteArray} {n : Nat} (h : ∀ s ∈ l, s.size = n) : (joinB l).size = l.length * n := by
  rw [sizeL, joinB_list]
  induction l with
  | nil => simp
  | cons s r ih =>
    rw [List.flatMap_cons, List.length_append, ih fun t ht => h t (List.mem_cons_of_mem _ ht), List.length_cons, Nat.add_mul, ← sizeL, h s List.mem_cons_self]; omega
theorem sect_list (s : ByteArray) (i : Nat) : (sect s i).data.toList = (s.data.toList.drop (i * 64)).take 64 := by
  unfold sect
  rw [ByteArray.data_extract, Array.toList_extract, List.extract_eq_take_drop]
  congr 1
  omega
/-- A text's sectors, one behind the other, are it. -/
theorem join_sect {s : ByteArray} {z : Nat} (hs : s.size = z * 64) : joinB ((List.range z).map (sect s)) = s := by
  have key : ∀ k, ((List.range k).map (sect s)).flatMap (fun t => t.data.toList) = s.data.toList.take (k * 64) := by
    intro k
    induction k with
    | zero => simp
    | succ k ih =>
      rw [List.range_succ, List.map_append, List.flatMap_append, ih]
      simp only [List.map_cons, List.map_nil, List.flatMap_cons, List.flatMap_nil, List.append_nil]
      rw [sect_list, show (k + 1) * 64 = k * 64 + 64 by omega, List.take_add]
  apply extL
  rw [joinB_list, key, List.take_of_length_le (by rw [← sizeL, hs]; omega)]

/-- Data columns among the first k. -/
def dct (L : List C) (k : Nat) : Nat := (L.take k).countP fun c => !c.par
theorem dct_succ {L : List C} {k : Nat} (h : k < L.length) : dct L (k + 1) = dct L k + if L[k].par then 0 else 1 := by
  unfold dct
  rw [List.take_succ_eq_append_getElem h, List.countP_append]
  cases hp : L[k].par <;> simp [hp]
theorem dct_le (L : List C) (k : Nat) : dct L k ≤ k := Nat.le_trans List.countP_le_length (by rw [List.length_take]; omega)
theorem dct_all (L : List C) : dct L L.length = (datL L).length := by
  unfold dct datL
  rw [List.take_length, List.countP_eq_length_filter]
theorem dct_mono {L : List C} {j k : Nat} (h : j ≤ k) : dct L j ≤ dct L k := by
  unfold dct
  exact List.Sublist.countP_le (List.take_sublist_take_left h)
theorem dct_lt {L : List C} {k : Nat} (h : k < L.length) (hp : L[k].par = false) : dct L k < (datL L).length := by
  have h1 := dct_succ h
  rw [hp] at h1
  have h2 := dct_mono (L := L) (show k + 1 ≤ L.length from h)
  rw [dct_all] at h2
  simp at h1
  omega

/-- The places below n where q holds. -/
def idx (q : Nat → Bool) (n : Nat) : List Nat := (List.range n).filter q
theorem idx_succ (q : Nat → Bool) (n : Nat) : idx q (n + 1) = idx q n ++ if q n then [n] else [] := by
  unfold idx
  rw [List.range_succ, List.filter_append]
  cases h : q n <;> simp [h]
theorem idx_yes {q : Nat → Bool} {n : Nat} (h : q n = true) : idx q (n + 1) = idx q n ++ [n] := by rw [idx_succ, h]; rfl
theorem idx_no {q : Nat → Bool} {n : Nat} (h : q n = false) : idx q (n + 1) = idx q n := by rw [idx_succ, h]; simp
theorem idx_mem {q : Nat → Bool} {n j : Nat} : j ∈ idx q n ↔ j < n ∧ q j = true := by
  unfold idx; rw [List.mem_filter, List.mem_range]
theorem idx_le (q : Nat → Bool) (n : Nat) : (idx q n).length ≤ n := by
  unfold idx; exact Nat.le_trans (List.length_filter_le _ _) (by simp)
theorem idx_split {q : Nat → Bool} {a : Nat} (hq : q a = true) : ∀ n, a < n → ∃ r, idx q n = idx q a ++ a :: r ∧ ∀ j ∈ r, a < j ∧ j < n ∧ q j = true := by
  intro n
  induction n with
  | zero => intro h; omega
  | succ n ih =>
    intro h
    by_cases e : a = n
    · subst e
      exact ⟨[], idx_yes hq, fun j hj => by cases hj⟩
    · obtain ⟨r, hr, hm⟩ := ih (by omega)
      cases hn : q n with
      | true =>
        refine ⟨r ++ [n], by rw [idx_yes hn, hr]; simp, fun j hj => ?_⟩
        rcases List.mem_append.1 hj with h1 | h1
        · obtain ⟨h2, h3, h4⟩ := hm j h1; exact ⟨h2, by omega, h4⟩
        · rw [List.mem_singleton.1 h1]; exact ⟨by omega, by omega, hn⟩
      | false => exact ⟨r, by rw [idx_no hn, hr], fun j hj => by obtain ⟨h2, h3, h4⟩ := hm j hj; exact ⟨h2, by omega, h4⟩⟩
theorem idx_count {q : Nat → Bool} {p : C → Bool} (L : List C) (h : ∀ j (hj : j < L.length), q j = p L[j]) : ∀ k, k ≤ L.length → (idx q k).length = (L.take k).countP p := by
  intro k
  induction k with
  | zero => intro _; simp [idx]
  | succ k ih =>
    intro hk
    rw [List.take_succ_eq_append_getElem (show k < L.length by omega), List.countP_append, idx_succ, List.length_append, ih (by omega), h k (by omega)]
    cases hp : p L[k] <;> simp [hp]

def parAt (L : List C) (j : Nat) : Bool := (L[j]?).any C.par
def rowAt (L : List C) (j : Nat) : Int := (L[j]?).elim 0 C.row
def devAt (L : List C) (j : Nat) : Int := (L[j]?).elim 0 C.dev
theorem parAt_eq {L : List C} {j : Nat} (h : j < L.length) : parAt L j = L[j].par := by unfold parAt; rw [List.getElem?_eq_getElem h]; rfl
theorem rowAt_eq {L : List C} {j : Nat} (h : j < L.length) : rowAt L j = L[j].row := by unfold rowAt; rw [List.getElem?_eq_getElem h]; rfl
theorem devAt_eq {L : List C} {j : Nat} (h : j < L.length) : devAt L j = L[j].dev := by unfold devAt; rw [List.getElem?_eq_getElem h]; rfl

/-- The texts of a row's data columns among the first k. -/
def rowD (L : List C) (f : Nat → ByteArray) (r : Int) (k : Nat) : List ByteArray := (idx (fun j => !parAt L j && rowAt L j == r) k).map fun j => f (dct L j)
theorem rowD_yes {L : List C} {f : Nat → ByteArray} {r : Int} {k : Nat} (h1 : parAt L k = false) (h2 : rowAt L k = r) : rowD L f r (k + 1) = rowD L f r k ++ [f (dct L k)] := by
  unfold rowD; rw [idx_yes (by simp [h1, h2]), List.map_append]; rfl
theorem rowD_no {L : List C} {f : Nat → ByteArray} {r : Int} {k : Nat} (h : parAt L k = true ∨ rowAt L k ≠ r) : rowD L f r (k + 1) = rowD L f r k := by
  unfold rowD; rw [idx_no (by rcases h with h | h <;> simp [h])]
theorem rowD_len (L : List C) (f : Nat → ByteArray) (r : Int) (k : Nat) : (rowD L f r k).length ≤ k := by unfold rowD; rw [List.length_map]; exact idx_le _ _
/-- A column's text. -/
def encAt (L : List C) (f : Nat → ByteArray) (k : Nat) : ByteArray := if parAt L k then mkB (rowD L f (rowAt L k) L.length) else f (dct L k)
def encL (L : List C) (f : Nat → ByteArray) : List ByteArray := (List.range L.length).map (encAt L f)
theorem encL_len (L : List C) (f : Nat → ByteArray) : (encL L f).length = L.length := by simp [encL]
theorem encL_get (L : List C) (f : Nat → ByteArray) (j : Nat) (h : j < (encL L f).length) : (encL L f)[j] = encAt L f j := by simp [encL]
theorem encL_getD (L : List C) (f : Nat → ByteArray) (j : Nat) (h : j < L.length) : (encL L f).getD j ⟨#[]⟩ = encAt L f j := by
  rw [List.getD_eq_getElem?_getD, List.getElem?_eq_getElem (by rw [encL_len]; exact h), encL_get]; rfl

/-- What was read of a row's columns among the first k. -/
def rowG (L : List C) (G : List ByteArray) (r : Int) (k : Nat) : List ByteArray := (idx (fun j => rowAt L j == r) k).map fun j => G.getD j ⟨#[]⟩
theorem rowG_yes {L : List C} {G : List ByteArray} {r : Int} {k : Nat} (h : rowAt L k = r) : rowG L G r (k + 1) = rowG L G r k ++ [G.getD k ⟨#[]⟩] := by
  unfold rowG; rw [idx_yes (by simp [h]), List.map_append]; rfl
theorem rowG_no {L : List C} {G : List ByteArray} {r : Int} {k : Nat} (h : rowAt L k ≠ r) : rowG L G r (k + 1) = rowG L G r k := by
  unfold rowG; rw [idx_no (by simp [h])]
theorem rowG_len (L : List C) (G : List ByteArray) (r : Int) (k : Nat) : (rowG L G r k).length ≤ k := by unfold rowG; rw [List.length_map]; exact idx_le _ _
/-- A column made again by the others of its row. -/
def agn (L : List C) (G : List ByteArray) (a : Nat) : ByteArray := mkB ((rowG L G (rowAt L a) L.length).eraseIdx (rowG L G (rowAt L a) a).length)
/-- The data columns among the first k, a device's made again. -/
def wth (L : List C) (G : List ByteArray) (d : Int) (k : Nat) : List ByteArray := (idx (fun j => !parAt L j) k).map fun j => if devAt L j = d then agn L G j else G.getD j ⟨#[]⟩
theorem wth_par {L : List C} {G : List ByteArray} {d : Int} {k : Nat} (h : parAt L k = true) : wth L G d (k + 1) = wth L G d k := by
  unfold wth; rw [idx_no (by simp [h])]
theorem wth_data {L : List C} {G : List ByteArray} {d : Int} {k : Nat} (h : parAt L k = false) : wth L G d (k + 1) = wth L G d k ++ [if devAt L k = d then agn L G k else G.getD k ⟨#[]⟩] := by
  unfold wth; rw [idx_yes (by simp [h]), List.map_append]; rfl
theorem wth_len (L : List C) (G : List ByteArray) (d : Int) (k : Nat) : (wth L G d k).length ≤ k := by unfold wth; rw [List.length_map]; exact idx_le _ _
/-- Is one of the texts nothing? -/
def holeL (l : List ByteArray) : Bool := l.any fun s => s.size == 0
/-- A try, if all is there. -/
def tryOf (d : Int) (l : List ByteArray) : Option (Int × ByteArray) := if holeL l then none else some (d, joinB l)
def chunk (G : List ByteArray) (z d : Nat) : List ByteArray := (G.drop (d * z)).take z
/-- The tries of a Mirror's columns: u devices, z sectors each. -/
def triesM (L : List C) (G : List ByteArray) (u z : Nat) : List (Int × ByteArray) := (List.range u).filterMap fun d => tryOf (devAt L (d * z)) (chunk G z d)
/-- The tries of a Parity's columns. -/
def triesP (L : List C) (G : List ByteArray) (D : List Int) : List (Int × ByteArray) := D.filterMap fun d => tryOf d (wth L G d L.length)
end Go.Proofs.YtiffkbmcikiioaaGreat

/- code's small calls: a sector, a list that lacks one, texts one behind the other. -/
namespace Go.Proofs.YtiffkbmcikiioaaGreat
set_option maxRecDepth 100000
open Go.RowKit M

theorem sector_any (s : ByteArray) (i z : Nat) (w : World) (hs : s.size = z * 64) (hi : i < z) (hz : z ≤ 1000) :
    Calls Tryz.prog 123 #[.string s, .int .i64 (i : Int)] w fun e w' => e = .returned (.string (sect s i)) ∧ Below w.heap.size w w' := by
  have h1 : (i : Int) * 64 ≤ s.size := by omega
  have h2 : ((i : Int) + 1) * 64 ≤ s.size := by omega
  have q1 : ((i : Int) * 64).toNat = i * 64 := by omega
  have q2 : (((i : Int) + 1) * 64).toNat = (i + 1) * 64 := by omega
  have q3 : IntKind.i64.wrap ((i : Int) * 64) = (i : Int) * 64 := by rw [IntKind.wrap_i64]; omega
  have q4 : IntKind.i64.wrap ((i : Int) + 1) = (i : Int) + 1 := by rw [IntKind.wrap_i64]; omega
  have q5 : IntKind.i64.wrap (((i : Int) + 1) * 64) = ((i : Int) + 1) * 64 := by rw [IntKind.wrap_i64]; omega
  have q6 : (i : Int) * 64 ≤ ((i : Int) + 1) * 64 := by omega
  have hs2 : s.size ≤ 64000 := by omega
  clear hs
  go_enter Tryz.func123, Tryz.ntmps123
  go_wp2
  go_ret
  exact ⟨rfl, Below.refl _ _⟩

theorem no_txt (s : ByteArray) : s.toList.isEmpty = (s.size == 0) := by
  rw [ByteArray.toList_eq, sizeL]
  cases s.data.toList <;> simp
/-- None of the first k is nothing. -/
def fullTo (l : List ByteArray) (k : Nat) : Prop := ∀ j (h : j < l.length), j < k → l[j].size ≠ 0
theorem fullTo_all {l : List ByteArray} (h : fullTo l l.length) : holeL l = false := by
  unfold holeL
  rw [List.any_eq_false]
  intro s hs
  obtain ⟨j, hj, rfl⟩ := List.getElem_of_mem hs
  simpa using h j hj hj
theorem hole_at {l : List ByteArray} {k : Nat} (hk : k < l.length) (h : l[k].size = 0) : holeL l = true := by
  unfold holeL
  rw [List.any_eq_true]
  exact ⟨_, List.getElem_mem hk, by simp [h]⟩

set_option maxHeartbeats 1000000 in
theorem index_hole (l : List ByteArray) (v : Value) (w : World) (h : Txt w v l) (hm : l.length ≤ 100000) :
    Calls Tryz.prog 71 #[v, .string ⟨#[]⟩] w fun e w' =>
      ∃ k : Int, e = .returned (.int .i64 k) ∧ (holeL l = false → k = -1) ∧ (holeL l = true → 0 ≤ k) ∧ w = w' := by
  obtain ⟨a, c, rfl, hcc, hj⟩ := h
  have HJ := Lib.hid hj
  clear hj
  generalize hn : l.length = n at hm hcc
  have HN := Lib.hid hn
  clear hn
  go_enter Tryz.func71, Tryz.ntmps71
  go_wp2_with fail
  go_loop [8] (fun i => ∃ k : Nat, k ≤ n ∧ i = .int .i64 k ∧ Hid (fullTo l k)) (fun i => n - (intOf i).toNat)
  case atStart => exact ⟨0, Nat.zero_le _, rfl, Lib.hid fun j _ hj => absurd hj (Nat.not_lt_zero _)⟩
  case round =>
    obtain ⟨k, hk, rfl, H⟩ := hrel
    by_cases hlt : k < n
    · have hlt' : k < l.length := by rw [HN.out]; exact hlt
      obtain ⟨g, o, rfl, hg, hck⟩ := HJ.out k hlt'
      generalize hs : l[k] = s at hck
      have HS : Hid (∃ h : k < l.length, l[k] = s) := Lib.hid ⟨hlt', hs⟩
      clear hs hlt'
      have hq := no_txt s
      by_cases hz : s.size = 0
      · have hz' : s.toList.isEmpty = true := by rw [hq]; simp [hz]
        have HZ := Lib.hid hz
        clear hz hq
        go_wp2
        go_ret
        have hyes : holeL l = true := by
          obtain ⟨hk', hs⟩ := HS.out
          exact hole_at hk' (by rw [hs]; exact HZ.out)
        exact ⟨k, rfl, fun h => by (rw [hyes] at h; cases h), fun _ => by omega, rfl⟩
      · have hz' : s.toList.isEmpty = false := by rw [hq]; simp [hz]
        have HZ := Lib.hid hz
        clear hz hq
        go_wp2
        go_round
        case rel =>
          refine ⟨k + 1, by omega, by go_num, Lib.hid fun j hj hjk => ?_⟩
          by_cases e : j = k
          · subst e
            obtain ⟨_, hs⟩ := HS.out
            rw [hs]; exact HZ.out
          · exact H.out j hj (by omega)
        case measure => simp [intOf]; omega
    · go_wp2
      go_ret
      have hno : holeL l = false := fullTo_all (by
        obtain rfl : k = n := by omega
        rw [HN.out]; exact H.out)
      exact ⟨-1, rfl, fun _ => rfl, fun h => by (rw [hno] at h; cases h), rfl⟩
theorem contains_hole (l : List ByteArray) (v : Value) (w : World) (h : Txt w v l) (hm : l.length ≤ 100000) (b : Bool) (hb : holeL l = b) :
    Calls Tryz.prog 38 #[v, .string ⟨#[]⟩] w fun e w' => e = .returned (.bool b) ∧ w = w' := by
  have HI := Lib.hid (index_hole l v w h hm)
  have HB := Lib.hid hb
  clear h hm hb
  go_enter Tryz.func38, Tryz.ntmps38
  go_wp2_with fail
  refine HI.out.mono ?_
  rintro e w1 ⟨k, rfl, h1, h2, rfl⟩
  rw [HB.out] at h1 h2
  cases b with
  | false =>
    obtain rfl := h1 rfl
    go_wp2
    go_ret
    exact ⟨rfl, rfl⟩
  | true =>
    have hk := h2 rfl
    clear h1 h2
    go_wp2
    go_ret
    exact ⟨rfl, rfl⟩
theorem join_flat (l : List ByteArray) : Lib.join (l.map (·.data.toList)) (⟨#[]⟩ : ByteArray).data.toList = l.flatMap fun s => s.data.toList := by
  cases l with
  | nil => rfl
  | cons s r =>
    rw [List.map_cons, Lib.join_cons]
    simp [Lib.joinTail, List.flatMap_def]
    rfl
theorem join_any (l : List ByteArray) (v : Value) (w : World) (h : Txt w v l) (hm : l.length ≤ 100000) (hz : ∀ s ∈ l, s.size ≤ 100000) :
    Calls Tryz.prog 126 #[v, .string ⟨#[]⟩] w fun e w' => e = .returned (.string (joinB l)) ∧ Below w.heap.size w w' := by
  by_cases hl : 0 < l.length
  · obtain ⟨g, o, c, rfl, hcc, hg, hc⟩ := h.isSome hl
    have hlen : (Lib.join (l.map (·.data.toList)) (⟨#[]⟩ : ByteArray).data.toList).length ≤ 140737488355328 := by
      rw [join_flat]
      have : ∀ m : List ByteArray, (∀ s ∈ m, s.size ≤ 100000) → (m.flatMap fun s => s.data.toList).length ≤ m.length * 100000 := by
        intro m
        induction m with
        | nil => intro _; simp
        | cons s r ih =>
          intro hm
          have h1 := ih fun t ht => hm t (List.mem_cons_of_mem _ ht)
          have h2 := hm s List.mem_cons_self
          rw [sizeL] at h2
          rw [List.flatMap_cons, List.length_append, List.length_cons, Nat.add_mul]
          omega
      have := this l hz
      omega
    have := Tryz.strings_Join g o c l ⟨#[]⟩ w (fun j x hx => by
      obtain ⟨hj, rfl⟩ := List.getElem?_eq_some_iff.1 hx
      exact hc j hj) hg (by omega) hcc hlen
    rw [join_flat] at this
    exact this
  · obtain rfl : l = [] := List.eq_nil_of_length_eq_zero (by omega)
    obtain ⟨a, c, rfl⟩ := h.isNone
    exact (Tryz.strings_Join_none a c ⟨#[]⟩ w).mono fun e w' ⟨h1, h2⟩ => ⟨h1, by rw [h2]; exact Below.refl _ _⟩
/-- What joined answers. -/
theorem joined_any (l : List ByteArray) (v : Value) (w : World) (h : Txt w v l) (hm : l.length ≤ 100000) (hz : ∀ s ∈ l, s.size ≤ 100000) :
    Calls Tryz.prog 92 #[v] w fun e w' => e = .returned (.tuple #[.string (if holeL l then ⟨#[]⟩ else joinB l), .bool (!holeL l)]) ∧ Below w.heap.size w w' := by
  cases hb : holeL l with
  | true =>
    have HC := Lib.hid (contains_hole l v w h hm true hb)
    clear h hm hz hb
    go_enter Tryz.func92, Tryz.ntmps92
    go_wp2_with fail
    refine HC.out.mono ?_
    rintro e w1 ⟨rfl, rfl⟩
    go_wp2
    go_ret2
    exact ⟨rfl, Below.refl _ _⟩
  | false =>
    have HC := Lib.hid (contains_hole l v w h hm false hb)
    have HJ := Lib.hid (join_any l v w h hm hz)
    clear h hm hz hb
    go_enter Tryz.func92, Tryz.ntmps92
    go_wp2_with fail
    refine HC.out.mono ?_
    rintro e w1 ⟨rfl, rfl⟩
    go_wp2_with fail
    refine HJ.out.mono ?_
    rintro e w2 ⟨rfl, b2⟩
    go_wp2
    go_ret2
    exact ⟨rfl, b2⟩
end Go.Proofs.YtiffkbmcikiioaaGreat

/- code.again, code.without: a column made again; a device's columns made again. -/
namespace Go.Proofs.YtiffkbmcikiioaaGreat
set_option maxRecDepth 100000
open Go.RowKit M

theorem rowG_mem {L : List C} {G : List ByteArray} {r : Int} {k N : Nat} (hG : ∀ s ∈ G, s.size ≤ N) : ∀ s ∈ rowG L G r k, s.size ≤ N := by
  intro s hs
  obtain ⟨j, _, rfl⟩ := List.mem_map.1 hs
  rw [List.getD_eq_getElem?_getD]
  cases h : G[j]? with
  | none => exact Nat.zero_le _
  | some t => exact hG t (List.mem_of_getElem? h)
theorem place_lt {L : List C} {G : List ByteArray} {a : Nat} (ha : a < L.length) : (rowG L G (rowAt L a) a).length < (rowG L G (rowAt L a) L.length).length := by
  obtain ⟨r, h, _⟩ := idx_split (q := fun j => rowAt L j == rowAt L a) (a := a) (by simp) L.length ha
  unfold rowG
  rw [h]
  simp

theorem txt_at (U : World) (y : ByteArray) (b : Nat) (hb : U.heap.size = b) : Txt (U.alloc (.cells #[.string y] 9)) (.slice (some ⟨b, 0, none⟩) 1 1) [y] := by subst hb; exact txt_one U y

set_option maxHeartbeats 2000000 in
theorem cagain_any (L : List C) (G : List ByteArray) (vL vG : Value) (w : World) (hV : ColsV w vL L) (hG : Txt w vG G) (hGl : G.length = L.length) (hl : L.length ≤ 100) (a : Nat) (ha : a < L.length) (h2 : 2 ≤ (rowG L G (rowAt L a) L.length).length) (hz : ∀ s ∈ G, s.size ≤ 100000) :
    Calls Tryz.prog 129 #[vL, vG, .int .i64 (a : Int)] w fun e w' => e = .returned (.string (agn L G a)) ∧ Below w.heap.size w w' := by
  obtain ⟨g, n, c, rfl, hn, hg, hC⟩ := hV.some (by omega)
  obtain ⟨gG, oG, cG, rfl, hcG, hgG, hCG⟩ := hG.isSome (by omega)
  have haL := ha
  rw [hGl, hn] at hcG
  rw [hn] at hl ha
  rw [hGl, hn]
  obtain ⟨r, hr⟩ : ∃ r, rowAt L a = r := ⟨_, rfl⟩
  have hCa := hC a haL
  have hra : (L[a]'haL).row = r := by rw [← rowAt_eq haL]; exact hr
  have ca := hCa.c3
  rw [hra] at ca
  have HPL : Hid ((rowG L G r a).length < (rowG L G r n).length) := Lib.hid (by rw [← hr, ← hn]; exact place_lt haL)
  have HAG : Hid (agn L G a = mkB ((rowG L G r n).eraseIdx (rowG L G r a).length)) := Lib.hid (by unfold agn; rw [hr, hn])
  rw [hr, hn] at h2
  have HC := Lib.hid hC
  have HCG := Lib.hid hCG
  have HN := Lib.hid hn
  have HGN : Hid (G.length = n) := Lib.hid (by rw [hGl, hn])
  have HR := Lib.hid hr
  have H2 := Lib.hid h2
  have HZ := Lib.hid hz
  clear hV hG hGl hn hC hCG hr hCa hra h2 hz haL
  go_enter Tryz.func129, Tryz.ntmps129
  go_wp2_with fail
  go_loopw [7, 8, 15] (fun t7 t8 i15 wr => ∃ (j m p : Nat) (b : Option Addr) (cc : Nat), j ≤ n ∧ m ≤ j ∧ p ≤ n ∧ i15 = .int .i64 (j : Int) ∧ t7 = .slice b m cc ∧ t8 = .int .i64 (p : Int) ∧ Hid (Own wr w.heap.size (.slice b m cc) (rowG L G r j)) ∧ Hid ((rowG L G r j).length = m) ∧ Hid (p = if a < j then (rowG L G r a).length else 0) ∧ Hid (Below w.heap.size w wr)) (fun _ _ i _ => n - (intOf i).toNat)
  case atStart => exact ⟨0, 0, 0, none, 0, Nat.zero_le _, Nat.le_refl _, Nat.zero_le _, rfl, rfl, rfl, Lib.hid (World.ownsRow_nil _ _ _ _), Lib.hid rfl, Lib.hid rfl, Lib.hid (Below.refl _ _)⟩
  case round =>
    obtain ⟨j, m, p, b, cc, hj, hmj, hpn, rfl, rfl, rfl, HO, HM, HP, HW⟩ := hrel
    have hsz := HW.out.size
    by_cases hjn : j < n
    · have hjL : j < L.length := by rw [HN.out]; exact hjn
      have hjG : j < G.length := by rw [HGN.out]; exact hjn
      obtain ⟨x, hx⟩ : ∃ x, L[j] = x := ⟨_, rfl⟩
      obtain ⟨y, hy⟩ : ∃ y, G[j] = y := ⟨_, rfl⟩
      have hCx := (HC.out j hjL).below hg HW.out
      rw [hx] at hCx
      obtain ⟨e0, e1, e2, e3⟩ := hCx
      have ca' := (HW.out.cell (p := ⟨g, a * 4 + 3, none⟩) hg).trans ca
      have hyc := (HW.out.cell (p := ⟨gG, oG + j, none⟩) hgG).trans (HCG.out j hjG)
      rw [hy] at hyc
      have HRX : Hid (rowAt L j = x.row) := Lib.hid (by rw [rowAt_eq hjL, hx])
      have HY : Hid (G.getD j ⟨#[]⟩ = y) := Lib.hid (by rw [List.getD_eq_getElem?_getD, List.getElem?_eq_getElem hjG, hy]; rfl)
      have HA : Hid ((if a < j then (rowG L G r a).length else 0) = p) := Lib.hid HP.out.symm
      have HOb := Lib.hid (HO.out.below (boxed wr (.cells #[.int .i64 x.dev, .int .i64 x.at_, .bool x.par, .int .i64 x.row] 75)))
      have hlw : g < wr.heap.size := Nat.lt_of_lt_of_le hg hsz
      have hlG : gG < wr.heap.size := Nat.lt_of_lt_of_le hgG hsz
      clear hx hy hjL hjG
      by_cases hrx : x.row = r
      · have hrb : (x.row == r) = true := by simp [hrx]
        have HNX : Hid (rowG L G r (j + 1) = rowG L G r j ++ [y]) := Lib.hid (by rw [rowG_yes (by rw [HRX.out]; exact hrx), HY.out])
        have HM1 : Hid ((rowG L G r j ++ [y]).length = m + 1) := Lib.hid (by rw [List.length_append, HM.out]; rfl)
        clear hrx
        by_cases hja : j = a
        · subst hja
          have HPN : Hid (m = if j < j + 1 then (rowG L G r j).length else 0) := Lib.hid (by rw [if_pos (by omega), HM.out])
          go_wp2_with fail
          go_quiet (fail)
          go_wp2_with (at_builtin; refine wpList_append_txt _ rfl _ _ rfl w.heap.size _ _ _ [y] _ (m + 1) rfl rfl rfl HM1.out ((HOb.out.below (below_drewN (Below.refl _ _) _)).alloc _) (txt_at _ y _ (by simp)) (by simp; omega) (by omega) ?_; intro b4 c4 w4 hO4 b04 s4)
          go_roundw
          case rel => exact ⟨j + 1, m + 1, m, b4, c4, by omega, by omega, by omega, by go_num, rfl, rfl, Lib.hid (by rw [HNX.out]; exact hO4), Lib.hid (by rw [HNX.out]; exact HM1.out), HPN, Lib.hid (((below_drewN (grows_alloc HW.out _) _).alloc (by simp; omega) _).trans b04)⟩
          case measure => simp [intOf]; omega
        · have hjb : ((j : Int) == (a : Int)) = false := by simp; omega
          have HPN : Hid (p = if a < j + 1 then (rowG L G r a).length else 0) := Lib.hid (by
            rw [← HA.out]
            by_cases h : a < j
            · rw [if_pos h, if_pos (by omega)]
            · rw [if_neg h, if_neg (by omega)])
          go_wp2_with fail
          go_quiet (fail)
          go_wp2_with (at_builtin; refine wpList_append_txt _ rfl _ _ rfl w.heap.size _ _ _ [y] _ (m + 1) rfl rfl rfl HM1.out ((HOb.out.below (below_drewN (Below.refl _ _) _)).alloc _) (txt_at _ y _ (by simp)) (by simp; omega) (by omega) ?_; intro b4 c4 w4 hO4 b04 s4)
          go_roundw
          case rel => exact ⟨j + 1, m + 1, p, b4, c4, by omega, by omega, by omega, by go_num, rfl, rfl, Lib.hid (by rw [HNX.out]; exact hO4), Lib.hid (by rw [HNX.out]; exact HM1.out), HPN, Lib.hid (((below_drewN (grows_alloc HW.out _) _).alloc (by simp; omega) _).trans b04)⟩
          case measure => simp [intOf]; omega
      · have hrb : (x.row == r) = false := by simp [hrx]
        have hja : ¬ j = a := fun e => hrx (by rw [← HRX.out, e]; exact HR.out)
        have HNX : Hid (rowG L G r (j + 1) = rowG L G r j) := Lib.hid (rowG_no (by rw [HRX.out]; exact hrx))
        have hjb : ((j : Int) == (a : Int)) = false := by simp; omega
        have HPN : Hid (p = if a < j + 1 then (rowG L G r a).length else 0) := Lib.hid (by
          rw [← HA.out]
          by_cases h : a < j
          · rw [if_pos h, if_pos (by omega)]
          · rw [if_neg h, if_neg (by omega)])
        clear hrx
        go_wp2_with fail
        go_quiet (fail)
        go_wp2
        go_roundw
        case rel => exact ⟨j + 1, m, p, b, cc, by omega, by omega, by omega, by go_num, rfl, rfl, Lib.hid (by rw [HNX.out]; exact HOb.out.below (below_drewN (Below.refl _ _) _)), Lib.hid (by rw [HNX.out]; exact HM.out), HPN, Lib.hid (below_drewN (grows_alloc HW.out _) _)⟩
        case measure => simp [intOf]; omega
    · obtain rfl : j = n := by omega
      have hp : p = (rowG L G r a).length := by rw [HP.out, if_pos (by omega)]
      have h2m : 2 ≤ m := by rw [← HM.out]; exact H2.out
      have hpm : p < m := by rw [hp, ← HM.out]; exact HPL.out
      have HPP := Lib.hid hp
      clear hp
      go_wp2_with fail
      refine (again_any (rowG L G r j) b m cc (p : Int) wr HO.out.txt (by omega) (fun s hs => Nat.le_trans (rowG_mem HZ.out s hs) (by decide)) p rfl hpm h2m).mono ?_
      rintro e w5 ⟨rfl, b5⟩
      go_wp2
      go_ret
      exact ⟨by rw [HAG.out, HPP.out]; rfl, next HW.out b5⟩
end Go.Proofs.YtiffkbmcikiioaaGreat
