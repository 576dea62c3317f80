/-
  For the law that holds tries against the document's: what stands in boxes; which columns are bad, one by one (plain facts).
-/
import Derived.Test.YtpalgadokdcgnaaRd
namespace Go.Proofs.Ytpalgadokdcgnaa
set_option maxRecDepth 100000
open Go.RowKit M

structure HX (w0 w : World) (a : Option Addr) (n c : Nat) (sc : Int) (l : List (Int × Int)) (k t : Int) (x : Value) : Prop where
  h : HeldP w0 w w0.heap.size (w0.heap.size + 1) a n c sc l k t
  tx : w.cell? ⟨w0.heap.size + 2, 0, none⟩ = some x
  r : w.cell? ⟨w0.heap.size + 3, 0, none⟩ = some (.bool false)
  rf : w.frozen? ⟨w0.heap.size + 3, 0, none⟩ = false
  lt : w0.heap.size + 3 < w.heap.size
theorem HX.next {w0 w w' : World} {a : Option Addr} {n c : Nat} {sc : Int} {l : List (Int × Int)} {k t : Int} {x : Value} (h : HX w0 w a n c sc l k t x) (b : Below w.heap.size w w') : HX w0 w' a n c sc l k t x :=
  ⟨h.h.next b, (b.cell (p := ⟨w0.heap.size + 2, 0, none⟩) (by show w0.heap.size + 2 < _; have := h.lt; omega)).trans h.tx, (b.cell (p := ⟨w0.heap.size + 3, 0, none⟩) h.lt).trans h.r, (b.frozen (p := ⟨w0.heap.size + 3, 0, none⟩) h.lt).trans h.rf, Nat.lt_of_lt_of_le h.lt b.size⟩
theorem HX.start {w : World} {a : Option Addr} {n c : Nat} {sc : Int} {l : List (Int × Int)} (k t : Int) (x : Value) (ty : TypeId) (h : Meas w (.agg #[.slice a n c, .int .i64 sc]) l sc) :
    HX w ((((w.alloc (.cells #[.slice a n c, .int .i64 sc] 24)).alloc (.cells #[.int .i64 k, .int .i64 t] 26)).alloc (.cells #[x] ty)).alloc (.cells #[.bool false] 4)) a n c sc l k t x :=
  ⟨((HeldP.start k t h).next (boxed _ _)).next (boxed _ _), box_kept (by simp) (boxed _ _), box_now _ _ _ (by simp), by
    have e : w.heap.size + 3 = (((w.alloc (.cells #[.slice a n c, .int .i64 sc] 24)).alloc (.cells #[.int .i64 k, .int .i64 t] 26)).alloc (.cells #[x] ty)).heap.size := by simp
    rw [e]; exact World.frozen?_alloc_at _ _ _ _ rfl, by simp⟩

theorem badL_at {E G : List ByteArray} {i n : Nat} (hi : i < n) (h : neB (G.getD i ⟨#[]⟩) (E.getD i ⟨#[]⟩) = true) : (badL E G n)[(badL E G i).length]? = some (i : Int) := by
  obtain ⟨r, hr, _⟩ := idx_split (q := fun j => neB (G.getD j ⟨#[]⟩) (E.getD j ⟨#[]⟩)) (a := i) h n hi
  unfold badL
  rw [hr, List.length_map, List.map_append, List.getElem?_append_right (by simp), List.length_map, Nat.sub_self]
  rfl

/-- The slice v is the tries xs, in a block from lo to hi. -/
def TryV (lo hi : Nat) (X : World) (v : Value) (xs : List (Int × ByteArray)) : Prop :=
  ∃ a c, v = .slice a xs.length c ∧ xs.length ≤ c ∧ ∀ j (h : j < xs.length), ∃ g, a = some ⟨g, 0, none⟩ ∧ lo ≤ g ∧ g < hi ∧ X.cell? ⟨g, j * 2, none⟩ = some (.int .i64 xs[j].1) ∧ X.cell? ⟨g, j * 2 + 1, none⟩ = some (.string xs[j].2)
theorem OwnT.tryV {w : World} {B : Nat} {v : Value} {xs : List (Int × ByteArray)} (h : OwnT B w v xs) : TryV B w.heap.size w v xs := by
  by_cases h0 : 0 < xs.length
  · obtain ⟨g, c, rfl, hc, hB, hg, hj⟩ := h.at_ h0
    exact ⟨_, _, rfl, hc, fun j hj' => ⟨g, rfl, hB, hg, hj j hj'⟩⟩
  · rcases h.2 with ⟨rfl, hn⟩ | ⟨g, cap, cur, rfl, _, _, hnc, _⟩
    · exact ⟨none, 0, by rw [hn], by omega, fun j hj => absurd hj (by omega)⟩
    · exact ⟨_, _, rfl, hnc, fun j hj => absurd hj (by omega)⟩
theorem TryV.within {lo hi : Nat} {X Y : World} {v : Value} {xs : List (Int × ByteArray)} {B : Nat} (h : TryV lo hi X v xs) (hb : Below B X Y) (hB : hi ≤ B) : TryV lo hi Y v xs := by
  obtain ⟨a, c, e, hc, hj⟩ := h
  refine ⟨a, c, e, hc, fun j hlt => ?_⟩
  obtain ⟨g, ha, h1, h2, h3, h4⟩ := hj j hlt
  exact ⟨g, ha, h1, h2, by rw [hb.cell (p := ⟨g, j * 2, none⟩) (by show g < B; omega)]; exact h3, by rw [hb.cell (p := ⟨g, j * 2 + 1, none⟩) (by show g < B; omega)]; exact h4⟩
theorem TryV.set {lo hi : Nat} {X : World} {v : Value} {xs : List (Int × ByteArray)} (h : TryV lo hi X v xs) (p : Addr) (hp : p.block < lo ∨ hi ≤ p.block) (x : Value) : TryV lo hi (X.setCell p x) v xs := by
  obtain ⟨a, c, e, hc, hj⟩ := h
  refine ⟨a, c, e, hc, fun j hlt => ?_⟩
  obtain ⟨g, ha, h1, h2, h3, h4⟩ := hj j hlt
  have hne : p.block ≠ g := by omega
  exact ⟨g, ha, h1, h2, by rw [World.cell?_setCell_other _ _ _ _ (by intro e; exact hne (congrArg Addr.block e))]; exact h3, by rw [World.cell?_setCell_other _ _ _ _ (by intro e; exact hne (congrArg Addr.block e))]; exact h4⟩
theorem TryV.more {lo lo' hi hi' : Nat} {X : World} {v : Value} {xs : List (Int × ByteArray)} (h : TryV lo hi X v xs) (h1 : lo' ≤ lo) (h2 : hi ≤ hi') : TryV lo' hi' X v xs := by
  obtain ⟨a, c, e, hc, hj⟩ := h
  refine ⟨a, c, e, hc, fun j hlt => ?_⟩
  obtain ⟨g, ha, h3, h4, h5⟩ := hj j hlt
  exact ⟨g, ha, by omega, by omega, h5⟩

/-- While tries come: each so far was the document's. -/
structure PlI (w w9 : World) (B lo cw cn : Nat) (st : Int) (vs : Value) (xs : List (Int × ByteArray)) (i : Nat) (X : World) : Prop where
  since : Since B w9 X
  below : Below w.heap.size w X
  st_ : X.cell? ⟨w.heap.size + 2, 0, none⟩ = some (.int .u8 st)
  r : X.cell? ⟨w.heap.size + 3, 0, none⟩ = some (.bool false)
  rf : X.frozen? ⟨w.heap.size + 3, 0, none⟩ = false
  want : X.cell? ⟨cw, 0, none⟩ = some vs
  tv : TryV lo cn X vs xs
  cnt : X.cell? ⟨cn, 0, none⟩ = some (.int .i64 (i : Int))
  cf : X.frozen? ⟨cn, 0, none⟩ = false
theorem PlI.within {w w9 : World} {B lo cw cn : Nat} {st : Int} {vs : Value} {xs : List (Int × ByteArray)} {i : Nat} {X Y : World} (h : PlI w w9 B lo cw cn st vs xs i X) (hb : Below w9.heap.size X Y) (h1 : w.heap.size + 3 < cw) (h2 : cw < cn) (h3 : cn < w9.heap.size) : PlI w w9 B lo cw cn st vs xs i Y :=
  ⟨h.since.below hb, h.below.trans (hb.mono (by omega)), (hb.cell (p := ⟨w.heap.size + 2, 0, none⟩) (by show w.heap.size + 2 < _; omega)).trans h.st_, (hb.cell (p := ⟨w.heap.size + 3, 0, none⟩) (by show w.heap.size + 3 < _; omega)).trans h.r, (hb.frozen (p := ⟨w.heap.size + 3, 0, none⟩) (by show w.heap.size + 3 < _; omega)).trans h.rf,
    (hb.cell (p := ⟨cw, 0, none⟩) (by show cw < _; omega)).trans h.want, h.tv.within hb (by omega), (hb.cell (p := ⟨cn, 0, none⟩) h3).trans h.cnt, (hb.frozen (p := ⟨cn, 0, none⟩) h3).trans h.cf⟩
theorem PlI.count {w w9 : World} {B lo cw cn : Nat} {st : Int} {vs : Value} {xs : List (Int × ByteArray)} {i : Nat} {X : World} (h : PlI w w9 B lo cw cn st vs xs i X) (h1 : w.heap.size + 3 < cw) (h2 : cw < cn) (h3 : cn < B) (m : Int) (hm : m = ((i + 1 : Nat) : Int)) : PlI w w9 B lo cw cn st vs xs (i + 1) (X.setCell ⟨cn, 0, none⟩ (.int .i64 m)) := by
  subst hm
  refine ⟨h.since.setCell (p := ⟨cn, 0, none⟩) h3 _, h.below.setCell (p := ⟨cn, 0, none⟩) (by show w.heap.size ≤ cn; omega) _, ?_, ?_, ?_, ?_, h.tv.set _ (.inr (Nat.le_refl _)) _, ?_, ?_⟩
  · rw [World.cell?_setCell_other _ _ _ _ (by intro e; cases e; omega)]; exact h.st_
  · rw [World.cell?_setCell_other _ _ _ _ (by intro e; cases e; omega)]; exact h.r
  · rw [World.frozen?_setCell]; exact h.rf
  · rw [World.cell?_setCell_other _ _ _ _ (by intro e; cases e; omega)]; exact h.want
  · rw [World.cell?_setCell_same _ _ _ h.cnt]
  · rw [World.frozen?_setCell]; exact h.cf
end Go.Proofs.Ytpalgadokdcgnaa
