/-
  Texts in memory: a slice of them that came in, or that is one's own; a row of bytes.
-/
import Derived.Test.YtckfhphobjjojaaPm
import Derived.Test.YtckfhphobjjojaaKit
import Derived.Test.YtckfhphobjjojaaReg
import Derived.SliceStrings
import Derived.Laws.AppendOwn
import Derived.Laws.OwnMore
import Derived.Laws.IdiomStrings
import Derived.Laws.BytesString
import Derived.Laws.Cells
import Derived.Laws.BitsAllLaws
import Derived.Lib.AppendZeros
namespace Go.Proofs.Ytckfhphobjjojaa
open Go.RowKit M

theorem early2 {w w1 w2 : World} (b1 : Below w.heap.size w w1) (b2 : Below w1.heap.size w1 w2) : Below w.heap.size w w2 := b1.trans (b2.mono b1.size)

/-- The slice value v is the texts l. -/
def Txt (w : World) (v : Value) (l : List ByteArray) : Prop :=
  ∃ a c, v = .slice a l.length c ∧ l.length ≤ c ∧ ∀ j (h : j < l.length), ∃ g o, a = some ⟨g, o, none⟩ ∧ g < w.heap.size ∧ w.cell? ⟨g, o + j, none⟩ = some (.string l[j])

theorem Txt.below {w w' : World} {v : Value} {l : List ByteArray} (h : Txt w v l) (hb : Below w.heap.size w w') : Txt w' v l := by
  obtain ⟨a, c, rfl, hc, hj⟩ := h
  refine ⟨a, c, rfl, hc, fun j h => ?_⟩
  obtain ⟨g, o, ha, hg, hcell⟩ := hj j h
  exact ⟨g, o, ha, Nat.lt_of_lt_of_le hg hb.size, by rw [hb.cell (p := ⟨g, o + j, none⟩) hg]; exact hcell⟩
theorem Txt.drew {w : World} {v : Value} {l : List ByteArray} (h : Txt w v l) : Txt w.drew v l := h.below (Below.refl _ _).drew
theorem Txt.isNone {w : World} {v : Value} (h : Txt w v []) : ∃ a c, v = .slice a 0 c := by
  obtain ⟨a, c, rfl, _⟩ := h
  exact ⟨a, c, rfl⟩
theorem Txt.isSome {w : World} {v : Value} {l : List ByteArray} (h : Txt w v l) (hl : 0 < l.length) :
    ∃ g o c, v = .slice (some ⟨g, o, none⟩) l.length c ∧ l.length ≤ c ∧ g < w.heap.size ∧ ∀ j (h : j < l.length), w.cell? ⟨g, o + j, none⟩ = some (.string l[j]) := by
  obtain ⟨a, c, rfl, hc, hj⟩ := h
  obtain ⟨g, o, rfl, hg, _⟩ := hj 0 hl
  refine ⟨g, o, c, rfl, hc, hg, fun j h => ?_⟩
  obtain ⟨g', o', ha, _, hcell⟩ := hj j h
  simp only [Option.some.injEq, Addr.mk.injEq, and_true] at ha
  obtain ⟨rfl, rfl⟩ := ha
  exact hcell
theorem Txt.mk {w : World} {g o c : Nat} {l : List ByteArray} (hc : l.length ≤ c) (hg : g < w.heap.size) (h : ∀ j (h : j < l.length), w.cell? ⟨g, o + j, none⟩ = some (.string l[j])) :
    Txt w (.slice (some ⟨g, o, none⟩) l.length c) l := ⟨_, c, rfl, hc, fun j hj => ⟨g, o, rfl, hg, h j hj⟩⟩

/-- A slice of texts that came in. -/
theorem open_txt {H : Type} {enc : TypeId × Value → H} {W : World} {a : Option Addr} {len cap : Nat} {d : DataW H} {ps : List MemPlace}
    (h : DataW.Trod enc Try.prog W 0 (fun _ => true) true 22 (.slice a len cap) d ps) :
    ∃ l : List ByteArray, Txt W (.slice a len cap) l ∧ len ≤ maxLen ∧ ∀ s ∈ l, s.size ≤ maxLen := by
  obtain ⟨fuel, hf⟩ := h
  rcases Go.ChangeShapes.open_strings Try.underlying22 Try.underlying9 (by kernel_rfl) hf with ⟨hcs, _⟩ | ⟨x, l, c, ss, hcs, _, hl, hm, hz, _, hcell, hws⟩
  · simp [Value.cells] at hcs
    obtain ⟨rfl, rfl, rfl⟩ := hcs
    exact ⟨[], ⟨_, _, rfl, Nat.le_refl _, fun j h => absurd h (Nat.not_lt_zero _)⟩, Nat.zero_le _, fun s hs => by cases hs⟩
  · simp [Value.cells] at hcs
    obtain ⟨rfl, rfl, rfl⟩ := hcs
    have hz' : ss.length = cap := by simpa using hz
    have htl : (ss.take len).length = len := by rw [List.length_take]; omega
    refine ⟨ss.take len, ⟨some x, cap, by rw [htl], by rw [htl]; exact hl, fun j h => ?_⟩, Nat.le_trans hl hm, fun s hs => hws s (List.mem_of_mem_take hs)⟩
    rw [htl] at h
    have hsp : x.spot = none := by
      have h0 := hcell 0 (by omega)
      have := World.cell?_spot h0
      rw [Addr.add] at this
      split at this <;> simp_all
    obtain ⟨b, off, spot⟩ := x
    simp only at hsp
    subst hsp
    have hj := hcell j (by omega)
    rw [Go.WideShapes.add_plain] at hj
    refine ⟨b, off, rfl, World.block_lt_of_cell? W _ hj, ?_⟩
    rw [hj, List.getElem_take, List.getD_eq_getElem?_getD, List.getElem?_eq_getElem (by omega)]
    rfl

/-- The slice v is the call's own, from block B on, and it is the texts l. -/
def Own (w : World) (B : Nat) (v : Value) (l : List ByteArray) : Prop := w.ownsRow B 9 1 v l.length (l.map Value.string)

theorem Own.below {w w' : World} {B : Nat} {v : Value} {l : List ByteArray} (h : Own w B v l) (hb : Below w.heap.size w w') : Own w' B v l := by
  refine ⟨h.1, ?_⟩
  rcases h.2 with hn | ⟨g, cap, cur, rfl, hB, hg, rest⟩
  · exact .inl hn
  · exact .inr ⟨g, cap, cur, rfl, hB, by rw [hb.block g (Array.getElem?_eq_some_iff.1 hg).1]; exact hg, rest⟩
theorem Own.txt {w : World} {B : Nat} {v : Value} {l : List ByteArray} (h : Own w B v l) : Txt w v l := by
  have hcells := fun g hg => h.cells (g := g) hg
  rcases h.2 with ⟨rfl, hn⟩ | ⟨g, cap, cur, rfl, _, hg, hnc, _⟩
  · have : l = [] := List.eq_nil_of_length_eq_zero hn
    subst this
    exact ⟨_, _, rfl, Nat.le_refl _, fun j h => absurd h (Nat.not_lt_zero _)⟩
  · refine ⟨_, cap, rfl, hnc, fun j hj => ⟨g, 0, rfl, (Array.getElem?_eq_some_iff.1 hg).1, ?_⟩⟩
    have := hcells g rfl j (.string l[j]) (by rw [List.getElem?_map, List.getElem?_eq_getElem hj]; rfl)
    rw [Go.WideShapes.add_plain] at this
    exact this
/-- A literal of texts. -/
theorem own_lit (w : World) (B : Nat) (l : List ByteArray) (hB : B ≤ w.heap.size) (hl : l.length ≤ maxLen) :
    Own (w.alloc (.cells (l.map Value.string).toArray 9)) B (.slice (some ⟨w.heap.size, 0, none⟩) l.length l.length) l := by
  have := World.ownsRow_lit (base := B) (e := 9) (size := 1) w (l.map Value.string).toArray l.length hB hl (by simp)
  simpa [Own] using this

theorem own_none (w : World) (B : Nat) (hB : B ≤ w.heap.size) : Own (w.alloc (.cells #[] 9)) B (.slice (some ⟨w.heap.size, 0, none⟩) 0 0) [] := own_lit w B [] hB (by decide)
theorem own_one (w : World) (B : Nat) (p : ByteArray) (hB : B ≤ w.heap.size) : Own (w.alloc (.cells #[.string p] 9)) B (.slice (some ⟨w.heap.size, 0, none⟩) 1 1) [p] := own_lit w B [p] hB (by show 1 ≤ maxLen; decide)
theorem txt_one (w : World) (p : ByteArray) : Txt (w.alloc (.cells #[.string p] 9)) (.slice (some ⟨w.heap.size, 0, none⟩) 1 1) [p] := (own_one w 0 p (Nat.zero_le _)).txt
theorem txt_two (w : World) (p q : ByteArray) : Txt (w.alloc (.cells #[.string p, .string q] 9)) (.slice (some ⟨w.heap.size, 0, none⟩) 2 2) [p, q] := (own_lit w 0 [p, q] (Nat.zero_le _) (by show 2 ≤ maxLen; decide)).txt
theorem Txt.len {w : World} {a : Option Addr} {n c : Nat} {l : List ByteArray} (h : Txt w (.slice a n c) l) : l.length = n := by
  obtain ⟨a', c', e, _⟩ := h
  simp only [Value.slice.injEq] at e
  exact e.2.1.symm
theorem Own.alloc {w : World} {B : Nat} {v : Value} {l : List ByteArray} (h : Own w B v l) (o : Obj) : Own (w.alloc o) B v l := h.below ((Below.refl _ w).alloc (Nat.le_refl _) _)
theorem Txt.alloc {w : World} {v : Value} {l : List ByteArray} (h : Txt w v l) (o : Obj) : Txt (w.alloc o) v l := h.below ((Below.refl _ w).alloc (Nat.le_refl _) _)

theorem info_str : ∃ i, Try.prog.info? 9 = some i ∧ i.zero = some (.string ⟨#[]⟩) ∧ i.size = 1 ∧ i.bytes = 16 := info_parts (by kernel_rfl)

/-- append(v, x..): texts behind texts. -/
theorem app_txt (w : World) (B : Nat) (v x : Value) (l m : List ByteArray) (hv : Own w B v l) (hx : Txt w x m) (hB : B ≤ w.heap.size) (hn : l.length + m.length ≤ 4294967296) (ty : TypeId) :
    ∃ a c w', (Builtin.append_ #[22, 22] ty #[v, x]).run Try.prog w = .ok (.slice a (l.length + m.length) c) w' ∧ Own w' B (.slice a (l.length + m.length) c) (l ++ m) ∧ Below B w w' := by
  obtain ⟨i, hi, hz, hs, hb⟩ := info_str
  by_cases hm : 0 < m.length
  · obtain ⟨g, o, c, rfl, hc, hg, hcell⟩ := hx.isSome hm
    obtain ⟨v', w', h1, h2, h3, _⟩ := run_append_own (P := Try.prog) w B 22 ty 9 i (.string ⟨#[]⟩) 1 16 Try.underlying22 hi hz hs hb rfl (by decide) v l.length (l.map Value.string) hv
      ⟨g, o, none⟩ m.length c (m.map Value.string) (by simp) (fun j u hu => by
        rw [List.getElem?_map] at hu
        by_cases hj : j < m.length
        · rw [List.getElem?_eq_getElem hj] at hu
          rw [Go.WideShapes.add_plain, hcell j hj]
          exact hu
        · rw [List.getElem?_eq_none (by omega)] at hu; cases hu) (fun u hu => by obtain ⟨s, _, rfl⟩ := List.mem_map.1 hu; rfl) (by unfold maxLen; omega) (by omega) hB
    have hO : Own w' B v' (l ++ m) := by rw [Own, List.length_append, List.map_append]; exact h2
    have hbel : Below B w w' := (Below.refl B w).grown h3 hB (fun k hk => (hv.lt k hk).1)
    rcases h2.2 with ⟨rfl, h0⟩ | ⟨g', c', cur, rfl, _⟩
    · omega
    · refine ⟨.some ⟨g', 0, .none⟩, c', w', ?_, ?_, hbel⟩
      · exact h1
      · exact hO
  · have h0 : m = [] := List.eq_nil_of_length_eq_zero (by omega)
    subst h0
    obtain ⟨a, c, rfl⟩ := hx.isNone
    have hO : Own w B v (l ++ []) := by rw [List.append_nil]; exact hv
    rcases hv.2 with ⟨rfl, h0⟩ | ⟨g, cap, cur, rfl, _, _, hnc, _⟩
    · refine ⟨.none, 0, w, ?_, by simpa [h0] using hO, Below.refl _ _⟩
      cases a <;> simp [Builtin.append_, run_underlying Try.underlying22, sizeOf, typeInfo, hi, Builtin.lenOf, Builtin.firstCells, loadCells, loadCellsFrom, h0]
    · refine ⟨_, cap, w, ?_, by simpa using hO, Below.refl _ _⟩
      cases a <;> simp [Builtin.append_, run_underlying Try.underlying22, sizeOf, typeInfo, hi, Builtin.lenOf, Builtin.firstCells, loadCells, loadCellsFrom, hnc, storeCells]

/-- The same, for the walk. -/
theorem wpList_append_txt {ops : Array Oper} {rest : List Oper} {o : Oper} {a : Act} {Q : Exit → Act → World → Prop} (w : World) (hgd : o.guard = none) (s x : Operand)
    (ho : o.op = .call { callee := .builtin .append, args := #[s, x], argTypes := #[22, 22] }) (B : Nat) (v xv : Value) (l m k : List ByteArray) (n : Nat) (hs : a.eval s = v) (hx : a.eval x = xv)
    (hk : l ++ m = k) (hn : k.length = n) (hv : Own w B v l) (hxt : Txt w xv m) (hB : B ≤ w.heap.size) (hN : n ≤ 4294967296)
    (h : ∀ b c w', Own w' B (.slice b n c) k → Below B w w' → w.heap.size ≤ w'.heap.size → wpList Try.prog ops Q rest (a.put o.dst (.slice b n c)) w') : wpList Try.prog ops Q (o :: rest) a w := by
  subst hk
  rw [List.length_append] at hn
  subst hn
  obtain ⟨b, c, w', h1, h2, h3⟩ := app_txt w B v xv l m hv hxt hB hN o.type
  exact Lib.wpList_append_run w hgd s x _ _ ho v xv hs hx _ _ h1 (h b c w' h2 h3 h3.size)

/-- Block g begins with the bytes l, and they may be written. -/
structure RowB (w : World) (g : Nat) (l : List UInt8) : Prop where
  c : ∀ j (h : j < l.length), w.cell? ⟨g, j, none⟩ = some (.int .u8 (l[j].toNat : Int))
  f : ∀ j, j < l.length → w.frozen? ⟨g, j, none⟩ = false
  lt : g < w.heap.size
theorem RowB.below {w w' : World} {g B : Nat} {l : List UInt8} (h : RowB w g l) (hb : Below B w w') (hB : g < B) : RowB w' g l :=
  ⟨fun j hj => by rw [hb.cell (p := ⟨g, j, none⟩) hB]; exact h.c j hj, fun j hj => by rw [hb.frozen (p := ⟨g, j, none⟩) hB]; exact h.f j hj, Nat.lt_of_lt_of_le h.lt hb.size⟩
/-- The world behind []byte(p). -/
def bytesW (w : World) (p : ByteArray) : World :=
  w.drew.alloc (.cells (bytesRow p (grownCap w p.size 0 5)) 5 ((bytesRow p (grownCap w p.size 0 5)).size, (bytesRow p (grownCap w p.size 0 5)).size + 1))
theorem conv_to (w : World) (p : ByteArray) : (convert 9 37 (.string p)).run Try.prog w = .ok (.slice (some ⟨w.heap.size, 0, none⟩) p.size (grownCap w p.size 0 5)) (bytesW w p) :=
  run_bytes_of_string w 9 37 5 p Try.underlying9 Try.underlying37 Try.underlying5
theorem bytesW_below (w : World) (p : ByteArray) : Below w.heap.size w (bytesW w p) := ((Below.refl _ w).drew).alloc (Nat.le_refl _) _
theorem bytesW_row (w : World) (p : ByteArray) : RowB (bytesW w p) w.heap.size p.data.toList := by
  have hh : (bytesW w p).heap[w.heap.size]? = some (.cells (bytesRow p (grownCap w p.size 0 5)) 5 ((bytesRow p (grownCap w p.size 0 5)).size, (bytesRow p (grownCap w p.size 0 5)).size + 1)) := heap_alloc_new w.drew _
  have hz : p.data.toList.length ≤ (bytesRow p (grownCap w p.size 0 5)).size := by
    simp [bytesRow]
  refine ⟨fun j hj => ?_, fun j hj => ?_, by show w.heap.size < _; simp [bytesW]⟩
  · have hj2 : j < p.data.size := by simpa using hj
    have hb : (bytesRow p (grownCap w p.size 0 5))[j]? = some (.int .u8 (p.data[j].toNat : Int)) := by
      rw [bytesRow, Array.getElem?_append_left (by simpa using hj2), Array.getElem?_map, Array.getElem?_eq_getElem hj2]
      rfl
    simp [World.cell?, hh, hb]
  · simp [World.frozen?, hh]
    omega
/-- string(b). -/
theorem conv_from (w : World) (g : Nat) (l : List UInt8) (h : RowB w g l) (n cap : Nat) (hn : n = l.length) :
    (convert 37 9 (.slice (some ⟨g, 0, none⟩) n cap)).run Try.prog w = .ok (.string ⟨l.toArray⟩) w := by
  subst hn
  exact run_convert_bytes_back (P := Try.prog) w 37 9 5 ⟨g, 0, none⟩ cap l Try.underlying37 Try.underlying5 Try.underlying9 (fun j hj => by
    rw [show Addr.add ⟨g, 0, none⟩ j = ⟨g, j, none⟩ by unfold Addr.add; split <;> simp_all]
    rw [h.c j hj])
theorem RowB.set {w : World} {g : Nat} {l : List UInt8} (h : RowB w g l) (j : Nat) (hj : j < l.length) (b : UInt8) : RowB (w.setCell ⟨g, j, none⟩ (.int .u8 (b.toNat : Int))) g (l.set j b) := by
  refine ⟨fun k hk => ?_, fun k hk => ?_, by simp [World.setCell]; exact h.lt⟩
  · rw [List.length_set] at hk
    by_cases e : j = k
    · subst e
      rw [World.cell?_setCell_same _ _ _ (h.c j hj)]
      simp
    · rw [World.cell?_setCell_other _ _ _ _ (by intro h; apply e; cases h; rfl), h.c k hk, List.getElem_set_ne e]
  · rw [List.length_set] at hk
    rw [World.frozen?_setCell]; exact h.f k hk
end Go.Proofs.Ytckfhphobjjojaa
