/-
  A result's cell written (putB); numbers read into an array: what is kept in each round.
-/
import Derived.Test.YthpifplflhhkiaaQk
import Derived.Test.YthpifplflhhkiaaQb
namespace Go.Proofs.Ythpifplflhhkiaa
set_option maxRecDepth 100000
open Go.RowKit M

/-- Block b may be written. -/
def Free (w : World) (b : Nat) : Prop := ∀ j, w.frozen? ⟨b, j, none⟩ = false
/-- Twelve cells stored one behind the other. -/
def putB (W : World) (b : Nat) (p : Ptr) : World :=
  (((((((((((W.setCell ⟨b, 0, none⟩ (.int .i64 p.ag)).setCell ⟨b, 1, none⟩ (.int .i64 p.aa)).setCell ⟨b, 2, none⟩ (.int .i64 p.bg)).setCell ⟨b, 3, none⟩ (.int .i64 p.ba)).setCell ⟨b, 4, none⟩ (.bool p.two)).setCell ⟨b, 5, none⟩ (.int .i64 p.sz)).setCell
    ⟨b, 6, none⟩ (.int .i64 p.lv)).setCell ⟨b, 7, none⟩ (.int .i64 p.bi)).setCell ⟨b, 8, none⟩ (.int .u64 p.q.a)).setCell ⟨b, 9, none⟩ (.int .u64 p.q.b)).setCell ⟨b, 10, none⟩ (.int .u64 p.q.c)).setCell ⟨b, 11, none⟩ (.int .u64 p.q.d)
theorem putB_setCells (W : World) (b : Nat) (p : Ptr) : putB W b p = W.setCells b 0 p.cells.toList := rfl
theorem putB_size (W : World) (b : Nat) (p : Ptr) : (putB W b p).heap.size = W.heap.size := by simp [putB, World.setCell]
theorem Box.some {w : World} {b : Nat} {p : Ptr} (h : Box w b p) : ∀ j, j < p.cells.toList.length → (w.cell? ⟨b, 0 + j, none⟩).isSome = true := by
  intro j hj
  have hj' : j < 12 := hj
  rw [Nat.zero_add]
  match j, hj' with
  | 0, _ => rw [h.c0]; rfl
  | 1, _ => rw [h.c1]; rfl
  | 2, _ => rw [h.c2]; rfl
  | 3, _ => rw [h.c3]; rfl
  | 4, _ => rw [h.c4]; rfl
  | 5, _ => rw [h.c5]; rfl
  | 6, _ => rw [h.c6]; rfl
  | 7, _ => rw [h.c7]; rfl
  | 8, _ => rw [h.c8]; rfl
  | 9, _ => rw [h.c9]; rfl
  | 10, _ => rw [h.c10]; rfl
  | 11, _ => rw [h.c11]; rfl
theorem Box.put {w : World} {b : Nat} {p : Ptr} (h : Box w b p) (r : Ptr) : Box (putB w b r) b r := by
  have k : ∀ j (hj : j < r.cells.toList.length), (putB w b r).cell? ⟨b, j, none⟩ = Option.some r.cells.toList[j] := fun j hj => by
    have := World.cell?_setCells_in b r.cells.toList 0 w (fun i hi => h.some i hi) j hj
    rwa [Nat.zero_add] at this
  exact ⟨k 0 (show 0 < 12 by decide), k 1 (show 1 < 12 by decide), k 2 (show 2 < 12 by decide), k 3 (show 3 < 12 by decide), k 4 (show 4 < 12 by decide), k 5 (show 5 < 12 by decide), k 6 (show 6 < 12 by decide), k 7 (show 7 < 12 by decide), k 8 (show 8 < 12 by decide), k 9 (show 9 < 12 by decide), k 10 (show 10 < 12 by decide), k 11 (show 11 < 12 by decide), by rw [putB_size]; exact h.lt⟩
theorem putB_below {W : World} {B b : Nat} (hB : B ≤ b) (p : Ptr) : Below B W (putB W b p) :=
  (((((((((((((Below.refl B W).setCell (p := ⟨b, 0, none⟩) hB _).setCell (p := ⟨b, 1, none⟩) hB _).setCell (p := ⟨b, 2, none⟩) hB _).setCell (p := ⟨b, 3, none⟩) hB _).setCell (p := ⟨b, 4, none⟩) hB _).setCell (p := ⟨b, 5, none⟩) hB _).setCell (p := ⟨b, 6, none⟩) hB _).setCell (p := ⟨b, 7, none⟩) hB _).setCell (p := ⟨b, 8, none⟩) hB _).setCell (p := ⟨b, 9, none⟩) hB _).setCell (p := ⟨b, 10, none⟩) hB _).setCell (p := ⟨b, 11, none⟩) hB _)

/-- Six numbers in block b, which may be written. -/
structure Six (w : World) (b : Nat) (f : Nat → Int) : Prop where
  at_ : ∀ i, i < 6 → w.cell? ⟨b, i, none⟩ = some (.int .i64 (f i))
  free : Free w b
/-- Small number i of a text. -/
def numS (s : ByteArray) (i : Nat) : Nat := numL ((s.data.toList.drop (4 * i)).take 4)
theorem numS_lt (s : ByteArray) (i : Nat) : numS s i < 4294967296 := by
  have h1 := numL_lt ((s.data.toList.drop (4 * i)).take 4)
  have h2 : ((s.data.toList.drop (4 * i)).take 4).length ≤ 4 := List.length_take_le _ _
  have h3 : (256 : Nat) ^ ((s.data.toList.drop (4 * i)).take 4).length ≤ 256 ^ 4 := Nat.pow_le_pow_right (by omega) h2
  have h4 : (256 : Nat) ^ 4 = 4294967296 := by decide
  unfold numS; omega
def numF (s : ByteArray) (k i : Nat) : Int := if i < k then (numS s i : Int) else 0
/-- Behind k rounds: the text's rest in block n + 1, the numbers in block n + 2, the result's cell n. -/
structure RR (w0 : World) (n : Nat) (s : ByteArray) (k : Nat) (w : World) : Prop where
  at0 : w0.heap.size = n
  has : Has w (n + 1) (tailB s (4 * k))
  six : Six w (n + 2) (numF s k)
  lt : n + 2 < w.heap.size
  res : Box w n noP
  free : Free w n
  below : Below n w0 w
theorem RR.took {w0 w w' : World} {n k : Nat} {s : ByteArray} (h : RR w0 n s k w) {t : ByteArray} (e : setB w (n + 1) t = w') :
    Has w' (n + 1) t ∧ Six w' (n + 2) (numF s k) ∧ n + 2 < w'.heap.size ∧ Box w' n noP ∧ Free w' n ∧ Below n w0 w' := by
  subst e
  have hb : Below (n + 1) w (setB w (n + 1) t) := Has.belowSet (Nat.le_refl _) t
  have hc : ∀ j, (setB w (n + 1) t).cell? ⟨n + 2, j, none⟩ = w.cell? ⟨n + 2, j, none⟩ := fun j => World.cell?_setCell_far _ _ _ _ (by show n + 1 ≠ n + 2; omega)
  refine ⟨h.has.set t, ⟨fun i hi => by rw [hc]; exact h.six.at_ i hi, fun j => by rw [setB, World.frozen?_setCell]; exact h.six.free j⟩, by simpa [setB, World.setCell] using h.lt, ?_, fun j => by rw [setB, World.frozen?_setCell]; exact h.free j, h.below.trans (hb.mono (by omega))⟩
  have e : ∀ j, (setB w (n + 1) t).cell? ⟨n, j, none⟩ = w.cell? ⟨n, j, none⟩ := fun j => hb.cell (p := ⟨n, j, none⟩) (by show n < n + 1; omega)
  exact ⟨by rw [e]; exact h.res.c0, by rw [e]; exact h.res.c1, by rw [e]; exact h.res.c2, by rw [e]; exact h.res.c3, by rw [e]; exact h.res.c4, by rw [e]; exact h.res.c5, by rw [e]; exact h.res.c6, by rw [e]; exact h.res.c7,
    by rw [e]; exact h.res.c8, by rw [e]; exact h.res.c9, by rw [e]; exact h.res.c10, by rw [e]; exact h.res.c11, by simpa [setB, World.setCell] using h.res.lt⟩
theorem RR.step {w0 w : World} {n k : Nat} {s : ByteArray} (hn : w0.heap.size = n) (hk : k < 6)
    (h : Has w (n + 1) (tailB s (4 * (k + 1))) ∧ Six w (n + 2) (numF s k) ∧ n + 2 < w.heap.size ∧ Box w n noP ∧ Free w n ∧ Below n w0 w) :
    RR w0 n s (k + 1) (w.setCell ⟨n + 2, k, none⟩ (.int .i64 (numS s k : Int))) := by
  obtain ⟨h1, h2, h3, h4, h5, h6⟩ := h
  have hb : Below (n + 2) w (w.setCell ⟨n + 2, k, none⟩ (.int .i64 (numS s k : Int))) := (Below.refl _ _).setCell (p := ⟨n + 2, k, none⟩) (Nat.le_refl _) _
  have e : ∀ b j, b < n + 2 → (w.setCell ⟨n + 2, k, none⟩ (.int .i64 (numS s k : Int))).cell? ⟨b, j, none⟩ = w.cell? ⟨b, j, none⟩ := fun b j hbn => hb.cell (p := ⟨b, j, none⟩) hbn
  refine ⟨hn, h1.below hb (by omega), ⟨fun i hi => ?_, fun j => by rw [World.frozen?_setCell]; exact h2.free j⟩, by simpa [World.setCell] using h3, ?_, fun j => by rw [World.frozen?_setCell]; exact h5 j, h6.trans (hb.mono (by omega))⟩
  · by_cases hik : i = k
    · subst hik
      rw [World.cell?_setCell_same _ _ _ (h2.at_ i hi), numF, if_pos (by omega)]
    · rw [World.cell?_setCell_other _ _ _ _ (fun e => hik (by cases e; rfl)), h2.at_ i hi, numF, numF]
      by_cases hl : i < k
      · rw [if_pos hl, if_pos (by omega)]
      · rw [if_neg hl, if_neg (by omega)]
  · have e := fun j => e n j (by omega)
    exact ⟨by rw [e]; exact h4.c0, by rw [e]; exact h4.c1, by rw [e]; exact h4.c2, by rw [e]; exact h4.c3, by rw [e]; exact h4.c4, by rw [e]; exact h4.c5, by rw [e]; exact h4.c6, by rw [e]; exact h4.c7,
      by rw [e]; exact h4.c8, by rw [e]; exact h4.c9, by rw [e]; exact h4.c10, by rw [e]; exact h4.c11, by simpa [World.setCell] using h4.lt⟩

/-- What a text of 64 bytes is read as. -/
def readP (s : ByteArray) : Ptr := ⟨numS s 0, numS s 1, numS s 2, numS s 3, decide (65536 ≤ (numS s 4 : Int)), (numS s 4 : Int) % 256, (numS s 4 : Int) % 65536 / 256, numS s 5, readQ (tailB s 24)⟩
def readE (s : ByteArray) : Int := if s.size < 64 then 2 else if 64 < s.size then 3 else if zerosB (tailB s 56) = true ∧ numS s 4 < 131072 then 0 else 3
def readV (s : ByteArray) : Ptr := if readE s = 0 then readP s else noP
end Go.Proofs.Ythpifplflhhkiaa
