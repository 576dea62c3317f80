/-
  The document's Encode (polderref07).
-/
import Derived.Test.YtpalgadokdcgnaaRa
import Derived.Test.YtpalgadokdcgnaaPx
namespace Go.Proofs.Ytpalgadokdcgnaa
set_option maxRecDepth 100000
open Go.RowKit M

def mrow (M : List (Int × Bool)) (j : Nat) : Int := (M.getD j (0, false)).1
def mpar (M : List (Int × Bool)) (j : Nat) : Bool := (M.getD j (0, false)).2
def mdct (M : List (Int × Bool)) (k : Nat) : Nat := (M.take k).countP fun c => !c.2
/-- Is the column p behind the next one of column i's row, and data? -/
def contB (M : List (Int × Bool)) (i p : Nat) : Bool := decide (i + 1 + p < M.length) && (mrow M (i + 1 + p) == mrow M i) && !mpar M (i + 1 + p)
def rowsB (M : List (Int × Bool)) (i : Nat) : List Nat := ((List.range M.length).filter fun j => !mpar M j && mrow M j == mrow M i).map (mdct M)
/-- The data behind a parity, of its row, are all data of its row. -/
def encOKB (M : List (Int × Bool)) : Bool := (List.range M.length).all fun i => !mpar M i || (List.range 7).all fun q => !((List.range q).all (contB M i)) || contB M i q || decide (rowsB M i = (List.range q).map (mdct M i + ·))
theorem mrow_eq (L : List C) (j : Nat) : mrow (L.map rp) j = rowAt L j := by
  unfold mrow rowAt
  rw [List.getD_eq_getElem?_getD, List.getElem?_map]
  cases L[j]? <;> rfl
theorem mpar_eq (L : List C) (j : Nat) : mpar (L.map rp) j = parAt L j := by
  unfold mpar parAt
  rw [List.getD_eq_getElem?_getD, List.getElem?_map]
  cases L[j]? <;> rfl
theorem mdct_eq (L : List C) (k : Nat) : mdct (L.map rp) k = dct L k := by
  unfold mdct dct
  rw [← List.map_take, List.countP_map]
  rfl
theorem par_encOK : ∀ u : Nat, u < 9 → 3 ≤ u → ∀ z : Nat, z < 5 → 1 ≤ z → encOKB ((parTo 0 0 u z).map rp) = true := by
  intro u h9 h3 z h5 h1
  rcases (show u = 3 ∨ u = 4 ∨ u = 5 ∨ u = 6 ∨ u = 7 ∨ u = 8 by omega) with rfl | rfl | rfl | rfl | rfl | rfl <;> rcases (show z = 1 ∨ z = 2 ∨ z = 3 ∨ z = 4 by omega) with rfl | rfl | rfl | rfl <;> decide
def contL (L : List C) (i p : Nat) : Bool := decide (i + 1 + p < L.length) && (rowAt L (i + 1 + p) == rowAt L i) && !parAt L (i + 1 + p)
section
variable {l : List (Int × Int)} {sc : Int} {k t z : Nat} {s : ByteArray} {kk : Int} {u : Nat} {L : List C} {f : Nat → ByteArray}
theorem Enc7.par (h : Enc7 l sc k t z s kk u L f) (h1 : kk = 1) : L = parTo (aheadL l k) t u z ∧ 3 ≤ u ∧ u ≤ 8 := by
  rcases h.kind.ok with h2 | h2
  · exact absurd (h1.symm.trans h2.1) (by decide)
  · exact ⟨h2.2.2.2.1, h2.2.1, h2.2.2.1⟩
theorem Enc7.six (h : Enc7 l sc k t z s kk u L f) (h1 : kk = 1) : L.length ≤ 6 := by
  obtain ⟨e, h3, h8⟩ := h.par h1
  rw [e, parTo_len0]
  exact (par_fits u (by omega) h3 z (by have := h.blk.z4; omega) h.blk.z1).2.2
theorem Enc7.follow (h : Enc7 l sc k t z s kk u L f) (h1 : kk = 1) {i q : Nat} (hi : i < L.length) (hp : parAt L i = true) (hq : q < 7) (hc : ∀ p, p < q → contL L i p = true) (hn : contL L i q = false) : rowD L f (rowAt L i) L.length = (List.range q).map fun p => f (dct L i + p) := by
  have hM : encOKB (L.map rp) = true := by
    obtain ⟨e, h3, h8⟩ := h.par h1
    rw [e, parTo_shape]
    exact par_encOK u (by omega) h3 z (by have := h.blk.z4; omega) h.blk.z1
  have hcb : ∀ p, contB (L.map rp) i p = contL L i p := fun p => by
    unfold contB contL
    rw [mrow_eq, mrow_eq, mpar_eq, List.length_map]
  unfold encOKB at hM
  rw [List.all_eq_true] at hM
  have h2 := hM i (List.mem_range.2 (by rw [List.length_map]; exact hi))
  rw [mpar_eq, hp, Bool.not_true, Bool.false_or, List.all_eq_true] at h2
  have h3 := h2 q (List.mem_range.2 hq)
  have hall : (List.range q).all (contB (L.map rp) i) = true := by
    rw [List.all_eq_true]
    intro p hp
    rw [hcb]
    exact hc p (List.mem_range.1 hp)
  rw [hall, hcb, hn, Bool.not_true, Bool.false_or, Bool.false_or, decide_eq_true_iff] at h3
  have h4 : (idx (fun j => !parAt L j && rowAt L j == rowAt L i) L.length).map (dct L) = (List.range q).map (dct L i + ·) := by
    unfold rowsB at h3
    rw [List.length_map] at h3
    rw [show (fun j => !mpar (L.map rp) j && mrow (L.map rp) j == mrow (L.map rp) i) = fun j => !parAt L j && rowAt L j == rowAt L i from funext fun j => by rw [mpar_eq, mrow_eq, mrow_eq]] at h3
    rw [show mdct (L.map rp) = dct L from funext fun j => mdct_eq L j] at h3
    exact h3
  unfold rowD
  have h5 := congrArg (List.map f) h4
  rw [List.map_map, List.map_map] at h5
  exact h5
theorem dct_run {i : Nat} (hi : i < L.length) (hp : parAt L i = true) : ∀ q, (∀ p, p < q → contL L i p = true) → dct L (i + 1 + q) = dct L i + q := by
  intro q
  induction q with
  | zero =>
    intro _
    have := dct_succ hi
    rw [← parAt_eq hi, hp] at this
    exact this
  | succ q ih =>
    intro h
    have hc := h q (by omega)
    unfold contL at hc
    rw [Bool.and_eq_true, Bool.and_eq_true, decide_eq_true_iff] at hc
    have hpar : parAt L (i + 1 + q) = false := by simpa using hc.2
    have := dct_succ hc.1.1
    rw [← parAt_eq hc.1.1, hpar, ih fun p hp => h p (by omega)] at this
    exact this
theorem Enc7.inData (h : Enc7 l sc k t z s kk u L f) (h1 : kk = 1) {i q : Nat} (hi : i < L.length) (hp : parAt L i = true) (hc : ∀ p, p < q + 1 → contL L i p = true) : dct L i + q < z := by
  have h2 := dct_run hi hp (q + 1) hc
  have h3 := hc q (by omega)
  unfold contL at h3
  rw [Bool.and_eq_true, Bool.and_eq_true, decide_eq_true_iff] at h3
  have h4 := dct_mono (L := L) (show i + 1 + (q + 1) ≤ L.length by omega)
  rw [h.dataN h1] at h4
  omega
end
end Go.Proofs.Ytpalgadokdcgnaa
