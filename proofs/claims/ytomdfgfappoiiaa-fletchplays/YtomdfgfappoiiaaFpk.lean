/-
  What FletchPlays stands on: its own variables' blocks.
-/
import Derived.Test.YtomdfgfappoiiaaFkeep
import Derived.Test.YtomdfgfappoiiaaFz
namespace Go.Proofs.Ytomdfgfappoiiaa
open Go.RowKit M

/-- The blocks of x, of stop and of the answer; what was there at first is as it was. -/
structure PK (w0 : World) (b : Nat) (q : Q) (st : Int) (w : World) : Prop where
  x : HoldsQ w b q
  st : w.cell? ⟨b + 1, 0, none⟩ = some (.int .u8 st)
  r : w.cell? ⟨b + 2, 0, none⟩ = some (.bool false)
  rf : w.frozen? ⟨b + 2, 0, none⟩ = false
  lt : b + 2 < w.heap.size
  below : Below w0.heap.size w0 w
theorem PK.within {w0 w w' : World} {b B : Nat} {q : Q} {st : Int} (h : PK w0 b q st w) (hb : Below B w w') (hB : b + 2 < B) (h0 : w0.heap.size ≤ B) : PK w0 b q st w' :=
  ⟨h.x.below hb (by omega), by rw [hb.cell (p := ⟨b + 1, 0, none⟩) (by show b + 1 < B; omega)]; exact h.st, by rw [hb.cell (p := ⟨b + 2, 0, none⟩) hB]; exact h.r, by rw [hb.frozen (p := ⟨b + 2, 0, none⟩) hB]; exact h.rf,
    Nat.lt_of_lt_of_le h.lt hb.size, h.below.trans (hb.mono h0)⟩
theorem PK.next {w0 w w' : World} {b : Nat} {q : Q} {st : Int} (h : PK w0 b q st w) (hb : Below w.heap.size w w') : PK w0 b q st w' := h.within hb h.lt h.below.size
theorem PK.drew {w0 w : World} {b : Nat} {q : Q} {st : Int} (h : PK w0 b q st w) : PK w0 b q st w.drew := h.next (Below.refl _ _).drew
/-- The worlds that keep them. -/
structure PW (w0 : World) (b : Nat) (q : Q) (st : Int) where
  v : World
  h : PK w0 b q st v
/-- And a block more that holds a sum. -/
structure PK2 (w0 : World) (b : Nat) (q : Q) (st : Int) (d : Nat) (y : Q) (w : World) : Prop where
  one : PK w0 b q st w
  two : HoldsQ w d y
  lt : d < w.heap.size
theorem PK2.next {w0 w w' : World} {b d : Nat} {q y : Q} {st : Int} (h : PK2 w0 b q st d y w) (hb : Below w.heap.size w w') : PK2 w0 b q st d y w' :=
  ⟨h.one.next hb, h.two.below hb h.lt, Nat.lt_of_lt_of_le h.lt hb.size⟩
theorem PK2.drew {w0 w : World} {b d : Nat} {q y : Q} {st : Int} (h : PK2 w0 b q st d y w) : PK2 w0 b q st d y w.drew := h.next (Below.refl _ _).drew
/-- The worlds that keep that, too. -/
structure PW2 (w0 : World) (b : Nat) (q : Q) (st : Int) (d : Nat) (y : Q) where
  v : World
  h : PK2 w0 b q st d y v
theorem PK.alloc2 {w0 w : World} {b : Nat} {q : Q} {st : Int} (h : PK w0 b q st w) (y : Q) (t : TypeId) : PK2 w0 b q st w.heap.size y (w.alloc (.cells #[.int .u64 y.a, .int .u64 y.b, .int .u64 y.c, .int .u64 y.d] t)) :=
  ⟨h.next ((Below.refl _ _).alloc (Nat.le_refl _) _), HoldsQ.new w y t, by simp⟩
theorem PK.start (w : World) (q : Q) (st : Int) (t t' t'' : TypeId) :
    PK w w.heap.size q st (((w.alloc (.cells #[.int .u64 q.a, .int .u64 q.b, .int .u64 q.c, .int .u64 q.d] t)).alloc (.cells #[.int .u8 st] t')).alloc (.cells #[.bool false] t'')) := by
  have h1 := HoldsQ.new w q t
  have b2 := (Below.refl (w.heap.size + 1) (w.alloc (.cells #[.int .u64 q.a, .int .u64 q.b, .int .u64 q.c, .int .u64 q.d] t))).alloc (by simp) (.cells #[.int .u8 st] t')
  have b3 := (Below.refl (w.heap.size + 2) ((w.alloc (.cells #[.int .u64 q.a, .int .u64 q.b, .int .u64 q.c, .int .u64 q.d] t)).alloc (.cells #[.int .u8 st] t'))).alloc (by simp) (.cells #[.bool false] t'')
  have c1 : ((w.alloc (.cells #[.int .u64 q.a, .int .u64 q.b, .int .u64 q.c, .int .u64 q.d] t)).alloc (.cells #[.int .u8 st] t')).cell? ⟨w.heap.size + 1, 0, none⟩ = some (.int .u8 st) := by
    rw [show w.heap.size + 1 = (w.alloc (.cells #[.int .u64 q.a, .int .u64 q.b, .int .u64 q.c, .int .u64 q.d] t)).heap.size by simp, World.cell?_alloc_new]; rfl
  have e2 : w.heap.size + 2 = ((w.alloc (.cells #[.int .u64 q.a, .int .u64 q.b, .int .u64 q.c, .int .u64 q.d] t)).alloc (.cells #[.int .u8 st] t')).heap.size := by simp
  refine ⟨(h1.below b2 (by omega)).below b3 (by omega), ?_, ?_, ?_, by simp, (((Below.refl _ w).alloc (Nat.le_refl _) _).alloc (by simp) _).alloc (by simp; omega) _⟩
  · rw [b3.cell (p := ⟨w.heap.size + 1, 0, none⟩) (by show w.heap.size + 1 < _; omega)]; exact c1
  · rw [e2, World.cell?_alloc_new]; rfl
  · rw [e2]; exact World.frozen?_alloc_at _ _ _ _ rfl
theorem four_eights (l : List UInt8) (h : 32 ≤ l.length) :
    layL (numL (l.take 8)) 8 ++ layL (numL ((l.drop 8).take 8)) 8 ++ layL (numL ((l.drop 16).take 8)) 8 ++ layL (numL ((l.drop 24).take 8)) 8 = l.take 32 := by
  have lay : ∀ m : List UInt8, m.length = 8 → layL (numL m) 8 = m := fun m h8 => by have := layL_numL m; rw [h8] at this; exact this
  rw [lay _ (by rw [List.length_take]; omega), lay _ (by rw [List.length_take, List.length_drop]; omega), lay _ (by rw [List.length_take, List.length_drop]; omega), lay _ (by rw [List.length_take, List.length_drop]; omega)]
  rw [show (32 : Nat) = 24 + 8 from rfl, List.take_add (i := 24), show (24 : Nat) = 16 + 8 from rfl, List.take_add (i := 16), show (16 : Nat) = 8 + 8 from rfl, List.take_add (i := 8)]
/-- A sum that was read has the bytes that it was read from. -/
theorem bytesQ_read (s : ByteArray) (h : 32 ≤ s.size) : bytesQ (readQ s) = s.extract 0 32 := by
  apply ext_list
  have hh := headB_list s 32
  unfold headB at hh
  rw [hh, bytesQ_list]
  exact four_eights _ (by rw [← size_list]; exact h)
theorem readQ_ok (s : ByteArray) : (readQ s).Ok :=
  ⟨numL_lt8 _ (List.length_take_le _ _), numL_lt8 _ (List.length_take_le _ _), numL_lt8 _ (List.length_take_le _ _), numL_lt8 _ (List.length_take_le _ _)⟩
end Go.Proofs.Ytomdfgfappoiiaa
