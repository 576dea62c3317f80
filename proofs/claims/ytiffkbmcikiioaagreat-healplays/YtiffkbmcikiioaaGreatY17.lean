/-
  Texts in memory: a slice of them that came in, or that is one's own; a row of bytes.
  par.Even, par.Blank, polderlaw03.few: what they answer.
  par.Blank, the document's Zeros and Even, polderlaw03.few: what they answer.
-/
import Derived.Test.YtiffkbmcikiioaaGreatY06
import Derived.Test.YtiffkbmcikiioaaGreatY00
import Derived.SliceStrings
import Derived.Laws.AppendOwn
import Derived.Laws.OwnMore
import Derived.Laws.IdiomStrings
import Derived.Laws.BytesString
import Derived.Laws.Cells
import Derived.Laws.BitsAllLaws
import Derived.Lib.AppendZeros

/- Texts in memory: a slice of them that came in, or that is one's own; a row of bytes. -/
namespace Go.Proofs.YtiffkbmcikiioaaGreat
set_option maxRecDepth 100000
open Go.RowKit M

theorem early2 {w w1 w2 : World} (b1 : Below w.heap.size w w1) (b2 : Below w1.heap.size w1 w2) : Below w.heap.size w w2 := b1.trans (b2.mono b1.size)

/-- The slice value v is the texts l. -/
def Txt (w : World) (v : Value) (l : List ByteArray) : Prop :=
  ∃ a c, v = .slice a l.length c ∧ l.length ≤ c ∧ ∀ j (h : j < l.length), ∃ g o, a = some ⟨g, o, none⟩ ∧ g < w.heap.size ∧ w.cell? ⟨g, o + j, none⟩ = some (.string l[j])

theorem Txt.below {w w' : World} {v : Value} {l : List ByteArray} (h : Txt w v l) (hb : Below w.heap.size w w') : Txt w' v l := by
  obtain ⟨a, c, rfl, hc, hj⟩ := h
  refine ⟨a, c, rfl, hc, fun j h => ?_⟩
  obtain ⟨g, o, ha, hg, hcell⟩ := hj j h
  exact ⟨g, o, ha, Nat.lt_of_lt_of_le hg hb.size, by rw [hb.cell (p := ⟨g, o + j, none⟩) hg]; exact hcell⟩
theorem Txt.drew {w : World} {v : Value} {l : List ByteArray} (h : Txt w v l) : Txt w.drew v l := h.below (Below.refl _ _).drew
theorem Txt.isNone {w : World} {v : Value} (h : Txt w v []) : ∃ a c, v = .slice a 0 c := by
  obtain ⟨a, c, rfl, _⟩ := h
  exact ⟨a, c, rfl⟩
theorem Txt.isSome {w : World} {v : Value} {l : List ByteArray} (h : Txt w v l) (hl : 0 < l.length) :
    ∃ g o c, v = .slice (some ⟨g, o, none⟩) l.length c ∧ l.length ≤ c ∧ g < w.heap.size ∧ ∀ j (h : j < l.length), w.cell? ⟨g, o + j, none⟩ = some (.string l[j]) := by
  obtain ⟨a, c, rfl, hc, hj⟩ := h
  obtain ⟨g, o, rfl, hg, _⟩ := hj 0 hl
  refine ⟨g, o, c, rfl, hc, hg, fun j h => ?_⟩
  obtain ⟨g', o', ha, _, hcell⟩ := hj j h
  simp only [Option.some.injEq, Addr.mk.injEq, and_true] at ha
  obtain ⟨rfl, rfl⟩ := ha
  exact hcell
theorem Txt.mk {w : World} {g o c : Nat} {l : List ByteArray} (hc : l.length ≤ c) (hg : g < w.heap.size) (h : ∀ j (h : j < l.length), w.cell? ⟨g, o + j, none⟩ = some (.string l[j])) :
    Txt w (.slice (some ⟨g, o, none⟩) l.length c) l := ⟨_, c, rfl, hc, fun j hj => ⟨g, o, rfl, hg, h j hj⟩⟩

/-- A slice of texts that came in. -/
theorem open_txt {H : Type} {enc : TypeId × Value → H} {W : World} {a : Option Addr} {len cap : Nat} {d : DataW H} {ps : List MemPlace}
    (h : DataW.Trod enc Tryz.prog W 0 (fun _ => true) true 60 (.slice a len cap) d ps) :
    ∃ l : List ByteArray, Txt W (.slice a len cap) l ∧ len ≤ maxLen ∧ ∀ s ∈ l, s.size ≤ maxLen := by
  obtain ⟨fuel, hf⟩ := h
  rcases Go.ChangeShapes.open_strings Tryz.underlying60 Tryz.underlying9 (by kernel_rfl) hf with ⟨hcs, _⟩ | ⟨x, l, c, ss, hcs, _, hl, hm, hz, _, hcell, hws⟩
  · simp [Value.cells] at hcs
    obtain ⟨rfl, rfl, rfl⟩ := hcs
    exact ⟨[], ⟨_, _, rfl, Nat.le_refl _, fun j h => absurd h (Nat.not_lt_zero _)⟩, Nat.zero_le _, fun s hs => by cases hs⟩
  · simp [Value.cells] at hcs
    obtain ⟨rfl, rfl, rfl⟩ := hcs
    have hz' : ss.length = cap := by simpa using hz
    have htl : (ss.take len).length = len := by rw [List.length_take]; omega
    refine ⟨ss.take len, ⟨some x, cap, by rw [htl], by rw [htl]; exact hl, fun j h => ?_⟩, Nat.le_trans hl hm, fun s hs => hws s (List.mem_of_mem_take hs)⟩
    rw [htl] at h
    have hsp : x.spot = none := by
      have h0 := hcell 0 (by omega)
      have := World.cell?_spot h0
      rw [Addr.add] at this
      split at this <;> simp_all
    obtain ⟨b, off, spot⟩ := x
    simp only at hsp
    subst hsp
    have hj := hcell j (by omega)
    rw [Go.WideShapes.add_plain] at hj
    refine ⟨b, off, rfl, World.block_lt_of_cell? W _ hj, ?_⟩
    rw [hj, List.getElem_take, List.getD_eq_getElem?_getD, List.getElem?_eq_getElem (by omega)]
    rfl

/-- The slice v is the call's own, from block B on, and it is the texts l. -/
def Own (w : World) (B : Nat) (v : Value) (l : List ByteArray) : Prop := w.ownsRow B 9 1 v l.length (l.map Value.string)

theorem Own.below {w w' : World} {B : Nat} {v : Value} {l : List ByteArray} (h : Own w B v l) (hb : Below w.heap.size w w') : Own w' B v l := by
  refine ⟨h.1, ?_⟩
  rcases h.2 with hn | ⟨g, cap, cur, rfl, hB, hg, rest⟩
  · exact .inl hn
  · exact .inr ⟨g, cap, cur, rfl, hB, by rw [hb.block g (Array.getElem?_eq_some_iff.1 hg).1]; exact hg, rest⟩
theorem Own.txt {w : World} {B : Nat} {v : Value} {l : List ByteArray} (h : Own w B v l) : Txt w v l := by
  have hcells := fun g hg => h.cells (g := g) hg
  rcases h.2 with ⟨rfl, hn⟩ | ⟨g, cap, cur, rfl, _, hg, hnc, _⟩
  · have : l = [] := List.eq_nil_of_length_eq_zero hn
    subst this
    exact ⟨_, _, rfl, Nat.le_refl _, fun j h => absurd h (Nat.not_lt_zero _)⟩
  · refine ⟨_, cap, rfl, hnc, fun j hj => ⟨g, 0, rfl, (Array.getElem?_eq_some_iff.1 hg).1, ?_⟩⟩
    have := hcells g rfl j (.string l[j]) (by rw [List.getElem?_map, List.getElem?_eq_getElem hj]; rfl)
    rw [Go.WideShapes.add_plain] at this
    exact this
/-- A literal of texts. -/
theorem own_lit (w : World) (B : Nat) (l : List ByteArray) (hB : B ≤ w.heap.size) (hl : l.length ≤ maxLen) :
    Own (w.alloc (.cells (l.map Value.string).toArray 9)) B (.slice (some ⟨w.heap.size, 0, none⟩) l.length l.length) l := by
  have := World.ownsRow_lit (base := B) (e := 9) (size := 1) w (l.map Value.string).toArray l.length hB hl (by simp)
  simpa [Own] using this

theorem own_none (w : World) (B : Nat) (hB : B ≤ w.heap.size) : Own (w.alloc (.cells #[] 9)) B (.slice (some ⟨w.heap.size, 0, none⟩) 0 0) [] := own_lit w B [] hB (by decide)
theorem own_one (w : World) (B : Nat) (p : ByteArray) (hB : B ≤ w.heap.size) : Own (w.alloc (.cells #[.string p] 9)) B (.slice (some ⟨w.heap.size, 0, none⟩) 1 1) [p] := own_lit w B [p] hB (by show 1 ≤ maxLen; decide)
theorem txt_one (w : World) (p : ByteArray) : Txt (w.alloc (.cells #[.string p] 9)) (.slice (some ⟨w.heap.size, 0, none⟩) 1 1) [p] := (own_one w 0 p (Nat.zero_le _)).txt
theorem txt_two (w : World) (p q : ByteArray) : Txt (w.alloc (.cells #[.string p, .string q] 9)) (.slice (some ⟨w.heap.size, 0, none⟩) 2 2) [p, q] := (own_lit w 0 [p, q] (Nat.zero_le _) (by show 2 ≤ maxLen; decide)).txt
theorem Txt.len {w : World} {a : Option Addr} {n c : Nat} {l : List ByteArray} (h : Txt w (.slice a n c) l) : l.length = n := by
  obtain ⟨a', c', e, _⟩ := h
  simp only [Value.slice.injEq] at e
  exact e.2.1.symm
theorem Own.alloc {w : World} {B : Nat} {v : Value} {l : List ByteArray} (h : Own w B v l) (o : Obj) : Own (w.alloc o) B v l := h.below ((Below.refl _ w).alloc (Nat.le_refl _) _)
theorem Txt.alloc {w : World} {v : Value} {l : List ByteArray} (h : Txt w v l) (o : Obj) : Txt (w.alloc o) v l := h.below ((Below.refl _ w).alloc (Nat.le_refl _) _)

theorem info_str : ∃ i, Tryz.prog.info? 9 = some i ∧ i.zero = some (.string ⟨#[]⟩) ∧ i.size = 1 ∧ i.bytes = 16 := info_parts (by kernel_rfl)

/-- append(v, x..): texts behind texts. -/
theorem app_txt (w : World) (B : Nat) (v x : Value) (l m : List ByteArray) (hv : Own w B v l) (hx : Txt w x m) (hB : B ≤ w.heap.size) (hn : l.length + m.length ≤ 4294967296) (ty : TypeId) :
    ∃ a c w', (Builtin.append_ #[60, 60] ty #[v, x]).run Tryz.prog w = .ok (.slice a (l.length + m.length) c) w' ∧ Own w' B (.slice a (l.length + m.length) c) (l ++ m) ∧ Below B w w' := by
  obtain ⟨i, hi, hz, hs, hb⟩ := info_str
  by_cases hm : 0 < m.length
  · obtain ⟨g, o, c, rfl, hc, hg, hcell⟩ := hx.isSome hm
    obtain ⟨v', w', h1, h2, h3, _⟩ := run_append_own (P := Tryz.prog) w B 60 ty 9 i (.string ⟨#[]⟩) 1 16 Tryz.underlying60 hi hz hs hb rfl (by decide) v l.length (l.map Value.string) hv
      ⟨g, o, none⟩ m.length c (m.map Value.string) (by simp) (fun j u hu => by
        rw [List.getElem?_map] at hu
        by_cases hj : j < m.length
        · rw [List.getElem?_eq_getElem hj] at hu
          rw [Go.WideShapes.add_plain, hcell j hj]
          exact hu
        · rw [List.getElem?_eq_none (by omega)] at hu; cases hu) (fun u hu => by obtain ⟨s, _, rfl⟩ := List.mem_map.1 hu; rfl) (by unfold maxLen; omega) (by omega) hB
    have hO : Own w' B v' (l ++ m) := by rw [Own, List.length_append, List.map_append]; exact h2
    have hbel : Below B w w' := (Below.refl B w).grown h3 hB (fun k hk => (hv.lt k hk).1)
    rcases h2.2 with ⟨rfl, h0⟩ | ⟨g', c', cur, rfl, _⟩
    · omega
    · refine ⟨.some ⟨g', 0, .none⟩, c', w', ?_, ?_, hbel⟩
      · exact h1
      · exact hO
  · have h0 : m = [] := List.eq_nil_of_length_eq_zero (by omega)
    subst h0
    obtain ⟨a, c, rfl⟩ := hx.isNone
    have hO : Own w B v (l ++ []) := by rw [List.append_nil]; exact hv
    rcases hv.2 with ⟨rfl, h0⟩ | ⟨g, cap, cur, rfl, _, _, hnc, _⟩
    · refine ⟨.none, 0, w, ?_, by simpa [h0] using hO, Below.refl _ _⟩
      cases a <;> simp [Builtin.append_, run_underlying Tryz.underlying60, sizeOf, typeInfo, hi, Builtin.lenOf, Builtin.firstCells, loadCells, loadCellsFrom, h0]
    · refine ⟨_, cap, w, ?_, by simpa using hO, Below.refl _ _⟩
      cases a <;> simp [Builtin.append_, run_underlying Tryz.underlying60, sizeOf, typeInfo, hi, Builtin.lenOf, Builtin.firstCells, loadCells, loadCellsFrom, hnc, storeCells]

/-- The same, for the walk. -/
theorem wpList_append_txt {ops : Array Oper} {rest : List Oper} {o : Oper} {a : Act} {Q : Exit → Act → World → Prop} (w : World) (hgd : o.guard = none) (s x : Operand)
    (ho : o.op = .call { callee := .builtin .append, args := #[s, x], argTypes := #[60, 60] }) (B : Nat) (v xv : Value) (l m k : List ByteArray) (n : Nat) (hs : a.eval s = v) (hx : a.eval x = xv)
    (hk : l ++ m = k) (hn : k.length = n) (hv : Own w B v l) (hxt : Txt w xv m) (hB : B ≤ w.heap.size) (hN : n ≤ 4294967296)
    (h : ∀ b c w', Own w' B (.slice b n c) k → Below B w w' → w.heap.size ≤ w'.heap.size → wpList Tryz.prog ops Q rest (a.put o.dst (.slice b n c)) w') : wpList Tryz.prog ops Q (o :: rest) a w := by
  subst hk
  rw [List.length_append] at hn
  subst hn
  obtain ⟨b, c, w', h1, h2, h3⟩ := app_txt w B v xv l m hv hxt hB hN o.type
  exact Lib.wpList_append_run w hgd s x _ _ ho v xv hs hx _ _ h1 (h b c w' h2 h3 h3.size)

/-- Block g begins with the bytes l, and they may be written. -/
structure RowB (w : World) (g : Nat) (l : List UInt8) : Prop where
  c : ∀ j (h : j < l.length), w.cell? ⟨g, j, none⟩ = some (.int .u8 (l[j].toNat : Int))
  f : ∀ j, j < l.length → w.frozen? ⟨g, j, none⟩ = false
  lt : g < w.heap.size
theorem RowB.below {w w' : World} {g B : Nat} {l : List UInt8} (h : RowB w g l) (hb : Below B w w') (hB : g < B) : RowB w' g l :=
  ⟨fun j hj => by rw [hb.cell (p := ⟨g, j, none⟩) hB]; exact h.c j hj, fun j hj => by rw [hb.frozen (p := ⟨g, j, none⟩) hB]; exact h.f j hj, Nat.lt_of_lt_of_le h.lt hb.size⟩
/-- The world behind []byte(p). -/
def bytesW (w : World) (p : ByteArray) : World :=
  w.drew.alloc (.cells (bytesRow p (grownCap w p.size 0 5)) 5 ((bytesRow p (grownCap w p.size 0 5)).size, (bytesRow p (grownCap w p.size 0 5)).size + 1))
theorem conv_to (w : World) (p : ByteArray) : (convert 9 79 (.string p)).run Tryz.prog w = .ok (.slice (some ⟨w.heap.size, 0, none⟩) p.size (grownCap w p.size 0 5)) (bytesW w p) :=
  run_bytes_of_string w 9 79 5 p Tryz.underlying9 Tryz.underlying79 Tryz.underlying5
theorem bytesW_below (w : World) (p : ByteArray) : Below w.heap.size w (bytesW w p) := ((Below.refl _ w).drew).alloc (Nat.le_refl _) _
theorem bytesW_row (w : World) (p : ByteArray) : RowB (bytesW w p) w.heap.size p.data.toList := by
  have hh : (bytesW w p).heap[w.heap.size]? = some (.cells (bytesRow p (grownCap w p.size 0 5)) 5 ((bytesRow p (grownCap w p.size 0 5)).size, (bytesRow p (grownCap w p.size 0 5)).size + 1)) := heap_alloc_new w.drew _
  have hz : p.data.toList.length ≤ (bytesRow p (grownCap w p.size 0 5)).size := by
    simp [bytesRow]
  refine ⟨fun j hj => ?_, fun j hj => ?_, by show w.heap.size < _; simp [bytesW]⟩
  · have hj2 : j < p.data.size := by simpa using hj
    have hb : (bytesRow p (grownCap w p.size 0 5))[j]? = some (.int .u8 (p.data[j].toNat : Int)) := by
      rw [bytesRow, Array.getElem?_append_left (by simpa using hj2), Array.getElem?_map, Array.getElem?_eq_getElem hj2]
      rfl
    simp [World.cell?, hh, hb]
  · simp [World.frozen?, hh]
    omega
/-- string(b). -/
theorem conv_from (w : World) (g : Nat) (l : List UInt8) (h : RowB w g l) (n cap : Nat) (hn : n = l.length) :
    (convert 79 9 (.slice (some ⟨g, 0, none⟩) n cap)).run Tryz.prog w = .ok (.string ⟨l.toArray⟩) w := by
  subst hn
  exact run_convert_bytes_back (P := Tryz.prog) w 79 9 5 ⟨g, 0, none⟩ cap l Tryz.underlying79 Tryz.underlying5 Tryz.underlying9 (fun j hj => by
    rw [show Addr.add ⟨g, 0, none⟩ j = ⟨g, j, none⟩ by unfold Addr.add; split <;> simp_all]
    rw [h.c j hj])
theorem RowB.set {w : World} {g : Nat} {l : List UInt8} (h : RowB w g l) (j : Nat) (hj : j < l.length) (b : UInt8) : RowB (w.setCell ⟨g, j, none⟩ (.int .u8 (b.toNat : Int))) g (l.set j b) := by
  refine ⟨fun k hk => ?_, fun k hk => ?_, by simp [World.setCell]; exact h.lt⟩
  · rw [List.length_set] at hk
    by_cases e : j = k
    · subst e
      rw [World.cell?_setCell_same _ _ _ (h.c j hj)]
      simp
    · rw [World.cell?_setCell_other _ _ _ _ (by intro h; apply e; cases h; rfl), h.c k hk, List.getElem_set_ne e]
  · rw [List.length_set] at hk
    rw [World.frozen?_setCell]; exact h.f k hk
end Go.Proofs.YtiffkbmcikiioaaGreat

/- par.Even, par.Blank, polderlaw03.few: what they answer. -/
namespace Go.Proofs.YtiffkbmcikiioaaGreat
set_option maxRecDepth 100000
open Go.RowKit M

/-- The closure of Even: is a text of another length than the first? -/
theorem epred_any (s s0 : ByteArray) (B g o n c : Nat) (w : World) (hB : w.cell? ⟨B, 0, none⟩ = some (.slice (some ⟨g, o, none⟩) n c)) (hn : 0 < n) (hc : w.cell? ⟨g, o, none⟩ = some (.string s0)) (b : Bool) (hb : ((s.size : Int) != (s0.size : Int)) = b) :
    Calls Tryz.prog 149 #[.string s, .pointer (some ⟨B, 0, none⟩)] w fun e w' => e = .returned (.bool b) ∧ w = w' := by
  go_enter Tryz.func149, Tryz.ntmps149
  go_wp2
  go_ret
  exact ⟨rfl, rfl⟩

/-- All that were looked at are as long as the first. -/
def sameTo (l : List ByteArray) (k : Nat) : Prop := ∀ j (h : j < l.length), j < k → l[j].size = wide l
theorem wide_at0 {l : List ByteArray} (h : 0 < l.length) : l[0].size = wide l := by
  cases l with
  | nil => exact absurd h (Nat.not_lt_zero _)
  | cons s r => rfl
theorem sameTo_all {l : List ByteArray} (h : sameTo l l.length) : evenL l = true := by
  rw [even_iff]
  intro s hs
  obtain ⟨j, hj, rfl⟩ := List.getElem_of_mem hs
  exact h j hj hj
theorem sameTo_not {l : List ByteArray} {k : Nat} (hk : k < l.length) (h : l[k].size ≠ wide l) : evenL l = false := by
  cases e : evenL l with
  | false => rfl
  | true => exact absurd (even_iff.1 e _ (List.getElem_mem hk)) h

set_option maxHeartbeats 1000000 in
theorem eindex_any (l : List ByteArray) (B g o c : Nat) (w : World) (hl : 0 < l.length) (hm : l.length ≤ maxLen) (hcc : l.length ≤ c)
    (hB : w.cell? ⟨B, 0, none⟩ = some (.slice (some ⟨g, o, none⟩) l.length c)) (hc : ∀ j (h : j < l.length), w.cell? ⟨g, o + j, none⟩ = some (.string l[j])) :
    Calls Tryz.prog 125 #[.slice (some ⟨g, o, none⟩) l.length c, .func (.func 149) #[] #[.pointer (some ⟨B, 0, none⟩)]] w fun e w' =>
      ∃ k : Int, e = .returned (.int .i64 k) ∧ (evenL l = true → k = -1) ∧ (evenL l = false → 0 ≤ k) ∧ w = w' := by
  unfold maxLen at hm
  have hc0 := hc 0 hl
  rw [Nat.add_zero] at hc0
  have hw := wide_at0 hl
  generalize hs0 : l[0] = s0 at hc0 hw
  clear hs0
  have HC := Lib.hid hc
  have HW := Lib.hid hw
  clear hc hw
  generalize hn : l.length = n at hl hm hcc hB
  have HN := Lib.hid hn
  clear hn
  go_enter Tryz.func125, Tryz.ntmps125
  go_wp2_with fail
  go_loop [8] (fun i => ∃ k : Nat, k ≤ n ∧ i = .int .i64 k ∧ Hid (sameTo l k)) (fun i => n - (intOf i).toNat)
  case atStart => exact ⟨0, Nat.zero_le _, rfl, Lib.hid fun j _ hj => absurd hj (Nat.not_lt_zero _)⟩
  case round =>
    obtain ⟨k, hk, rfl, H⟩ := hrel
    by_cases hlt : k < n
    · have hlt' : k < l.length := by rw [HN.out]; exact hlt
      have hck := HC.out k hlt'
      generalize hs : l[k] = s at hck
      have HS : Hid (∃ h : k < l.length, l[k] = s) := Lib.hid ⟨hlt', hs⟩
      clear hs hlt'
      by_cases hz : s.size = s0.size
      · have hz' : ((s.size : Int) != (s0.size : Int)) = false := by rw [hz]; simp
        have HZ := Lib.hid hz
        have HZ' := Lib.hid hz'
        clear hz hz'
        go_wp2_with fail
        refine (epred_any s s0 B g o n c _ hB hl hc0 false HZ'.out).mono ?_
        rintro e w1 ⟨rfl, rfl⟩
        go_wp2
        go_round
        case rel =>
          refine ⟨k + 1, by omega, by go_num, Lib.hid fun j hj hjk => ?_⟩
          by_cases e : j = k
          · subst e
            obtain ⟨_, hs⟩ := HS.out
            rw [hs, HZ.out, HW.out]
          · exact H.out j hj (by omega)
        case measure => simp [intOf]; omega
      · have hz' : ((s.size : Int) != (s0.size : Int)) = true := by rw [bne_iff_ne]; omega
        have HZ := Lib.hid hz
        have HZ' := Lib.hid hz'
        clear hz hz'
        go_wp2_with fail
        refine (epred_any s s0 B g o n c _ hB hl hc0 true HZ'.out).mono ?_
        rintro e w1 ⟨rfl, rfl⟩
        go_wp2
        go_ret
        have hno : evenL l = false := by
          obtain ⟨hk', hs⟩ := HS.out
          exact sameTo_not hk' (by rw [hs, ← HW.out]; exact HZ.out)
        exact ⟨k, rfl, fun h => by (rw [hno] at h; cases h), fun _ => by omega, rfl⟩
    · go_wp2
      go_ret
      have hyes : evenL l = true := sameTo_all (by
        obtain rfl : k = n := by omega
        rw [HN.out]; exact H.out)
      exact ⟨-1, rfl, fun _ => rfl, fun h => by (rw [hyes] at h; cases h), rfl⟩

theorem econtains_any (l : List ByteArray) (B g o c : Nat) (w : World) (hl : 0 < l.length) (hm : l.length ≤ maxLen) (hcc : l.length ≤ c)
    (hB : w.cell? ⟨B, 0, none⟩ = some (.slice (some ⟨g, o, none⟩) l.length c)) (hc : ∀ j (h : j < l.length), w.cell? ⟨g, o + j, none⟩ = some (.string l[j])) (b : Bool) (hb : evenL l = b) :
    Calls Tryz.prog 89 #[.slice (some ⟨g, o, none⟩) l.length c, .func (.func 149) #[] #[.pointer (some ⟨B, 0, none⟩)]] w fun e w' => e = .returned (.bool (!b)) ∧ w = w' := by
  have hI := Lib.hid (eindex_any l B g o c w hl hm hcc hB hc)
  clear hB hc hcc hm
  have HB := Lib.hid hb
  clear hb
  go_enter Tryz.func89, Tryz.ntmps89
  go_wp2_with fail
  refine hI.out.mono ?_
  rintro e w1 ⟨k, rfl, h1, h2, rfl⟩
  rw [HB.out] at h1 h2
  cases b with
  | true =>
    obtain rfl := h1 rfl
    go_wp2
    go_ret
    exact ⟨rfl, rfl⟩
  | false =>
    have hk := h2 rfl
    clear h1 h2
    go_wp2
    go_ret
    exact ⟨rfl, rfl⟩
theorem even_any (l : List ByteArray) (v : Value) (w : World) (h : Txt w v l) (hm : l.length ≤ maxLen) (b : Bool) (hb : evenL l = b) :
    Calls Tryz.prog 139 #[v] w fun e w' => e = .returned (.bool b) ∧ Below w.heap.size w w' := by
  by_cases hl : 0 < l.length
  · obtain ⟨g, o, c, rfl, hcc, hg, hc⟩ := h.isSome hl
    have HC := Lib.hid hc
    have HB := Lib.hid hb
    clear hc hb h
    go_enter Tryz.func139, Tryz.ntmps139
    go_wp2_with fail
    refine (econtains_any l w.heap.size g o c _ hl hm hcc (by simp) (fun j hj => ?_) b HB.out).mono ?_
    · rw [((Below.refl _ w).alloc (Nat.le_refl _) _).cell (p := ⟨g, o + j, none⟩) hg]; exact HC.out j hj
    rintro e w1 ⟨rfl, rfl⟩
    go_wp2
    go_ret
    exact ⟨by simp, (Below.refl _ w).alloc (Nat.le_refl _) _⟩
  · obtain rfl : l = [] := List.eq_nil_of_length_eq_zero (by omega)
    obtain ⟨a, c, rfl⟩ := h.isNone
    obtain rfl : true = b := hb
    clear h hl hm
    go_enter Tryz.func139, Tryz.ntmps139
    go_wp2_with go_in
    refine wp_loop_rounds 1 ?_
    rw [rounds_succ]
    go_wp2
    go_ret
    exact ⟨rfl, (Below.refl _ w).alloc (Nat.le_refl _) _⟩
end Go.Proofs.YtiffkbmcikiioaaGreat

/- par.Blank, the document's Zeros and Even, polderlaw03.few: what they answer. -/
namespace Go.Proofs.YtiffkbmcikiioaaGreat
set_option maxRecDepth 100000
open Go.RowKit M

theorem take_snoc (s : ByteArray) (k : Nat) (h : k < s.size) : s.data.toList.take (k + 1) = s.data.toList.take k ++ [s[k]] := by
  rw [List.take_succ_eq_append_getElem (by simpa using h)]; rfl
theorem blank_no (s : ByteArray) (k : Nat) (h : k < s.size) (hz : s[k] ≠ 0) : blankB s = false := by
  cases e : blankB s with
  | false => rfl
  | true =>
    rw [blankB, List.all_eq_true] at e
    have := e s[k] (by simp [ByteArray.getElem_eq_getElem_data])
    exact absurd (by simpa using this) hz

/-- What few adds up. -/
def fewN (l : List ByteArray) : Nat := (l.map fun s => min s.size 10000).sum
def fewL (l : List ByteArray) : Bool := decide (l.length < 30) && decide (fewN (l.take 30) ≤ 4000)
theorem few_short {l : List ByteArray} (h : fewL l = true) : l.length < 30 ∧ ∀ s ∈ l, s.size ≤ 4000 := by
  simp only [fewL, Bool.and_eq_true, decide_eq_true_eq] at h
  obtain ⟨h1, h2⟩ := h
  refine ⟨h1, fun s hs => ?_⟩
  rw [List.take_of_length_le (by omega)] at h2
  clear h1
  unfold fewN at h2
  induction l with
  | nil => cases hs
  | cons t r ih =>
    simp only [List.map_cons, List.sum_cons] at h2
    rcases List.mem_cons.1 hs with rfl | hs
    · omega
    · exact ih (by omega) hs
theorem fewN_snoc (l : List ByteArray) (k : Nat) (h : k < l.length) : fewN (l.take (k + 1)) = fewN (l.take k) + min l[k].size 10000 := by
  unfold fewN
  rw [List.take_succ_eq_append_getElem h, List.map_append, List.sum_append]
  simp only [List.map_cons, List.map_nil, List.sum_cons, List.sum_nil, Nat.add_zero]
theorem fewN_le (l : List ByteArray) (k : Nat) (hk : k ≤ 30) : fewN (l.take k) ≤ 300000 := by
  have : ∀ m : List ByteArray, fewN m ≤ 10000 * m.length := by
    intro m
    unfold fewN
    induction m with
    | nil => simp
    | cons t r ih => simp only [List.map_cons, List.sum_cons, List.length_cons]; omega
  have h2 := this (l.take k)
  rw [List.length_take] at h2
  omega

end Go.Proofs.YtiffkbmcikiioaaGreat
