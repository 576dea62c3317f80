/-
  polderlaw08.awake.
  New devices: none fails.
  The document's Of, Text, Fits (polderref06, polderref07), of any block.
  The document's Failed and Lost; how many devices of a block aren't here.
  What a block reads as raw that was written to devices some of which aren't here; just when it is among the tries (no program is named here).
  What devices read as behind a mending (no program is named here).
  What a block is read as: the first try that has a sum; what its columns are behind a mending (no program is named here).
-/
import Derived.Test.YtiffkbmcikiioaaGreatY33
import Derived.Test.YtiffkbmcikiioaaGreatY31
import Derived.Deep.RegionWith
import Derived.Test.YtiffkbmcikiioaaGreatY35
import Derived.Test.YtiffkbmcikiioaaGreatY36
import Derived.Test.YtiffkbmcikiioaaGreatY29
import Derived.Test.YtiffkbmcikiioaaGreatY37
import Derived.Test.YtiffkbmcikiioaaGreatY38
import Derived.Test.YtiffkbmcikiioaaGreatY10
import Derived.Test.YtiffkbmcikiioaaGreatY39

/- polderlaw08.awake. -/
namespace Go.Proofs.YtiffkbmcikiioaaGreat
set_option maxRecDepth 100000
open Go.RowKit Go.Maps M

theorem ex8_right : RightM [(0, 2)] 24 := rightM_iff.1 (by decide)
theorem ex8_devs : devsL [(0, 2)] 24 = 2 := by decide
theorem ex8_blk : Blk [(0, 2)] 24 0 0 1 := by
  obtain ⟨k, t, z, h1, h2, h3, h⟩ := mayL_iff.1 (show mayL [(0, 2)] 24 0 0 1 = true by decide)
  have e1 : k = 0 := by omega
  have e2 : t = 0 := by omega
  have e3 : z = 1 := by omega
  subst e1 e2 e3
  exact h
theorem ex8_cols : colsOf [(0, 2)] 0 0 1 = [⟨0, 16, false, 0⟩, ⟨1, 16, false, 0⟩] := by rfl
theorem ex8_fail (D : Dv) (hD : D.lost = false) : failN (fun _ => D) (upd (fun _ => false) 1 true) (colsOf [(0, 2)] 0 0 1) = 1 := by
  rw [ex8_cols]
  have h0 : hereB (fun _ => D) (upd (fun _ => false) 1 true) 0 = true := by simp [hereB, upd, hD]
  have h1 : hereB (fun _ => D) (upd (fun _ => false) 1 true) 1 = false := by simp [hereB, upd]
  have d0 : devN [⟨0, 16, false, 0⟩, ⟨1, 16, false, 0⟩] 0 = 0 := by decide
  have d1 : devN [⟨0, 16, false, 0⟩, ⟨1, 16, false, 0⟩] 1 = 1 := by decide
  show (faTo _ _ 2).length = 1
  rw [faTo, faTo, faTo, d0, d1, h0, h1]
  rfl

end Go.Proofs.YtiffkbmcikiioaaGreat

/- New devices: none fails. -/
namespace Go.Proofs.YtiffkbmcikiioaaGreat
set_option maxRecDepth 100000
open Go.RowKit Go.Maps M

theorem dsTo_none (fl : Nat → Bool) (D : Dv) (n : Nat) : dsTo 0 fl D n = fun _ => D := by funext i; simp [dsTo, saysB]
theorem awTo_none (fa : Nat → Bool) (n : Nat) : awTo 0 fa n = fun _ => false := by funext i; simp [awTo, saysB]
theorem zeroDv_here (sc : Int) (d : Nat) : hereB (fun _ => zeroDv sc) (fun _ => false) d = true := rfl
/-- All devices are new: none fails. -/
theorem failN_new (sc : Int) (L : List C) : failN (fun _ => zeroDv sc) (fun _ => false) L = 0 := by
  unfold failN
  rw [faTo_all _ fun j _ => zeroDv_here sc _]
  rfl
theorem errN_zero {x : Int × Int} (h : okG x = true) : errN x 0 = 0 := by
  unfold errN spareN
  have := okG_wide h
  split
  · rw [if_neg (by omega)]
  · rw [if_neg (by decide)]
theorem zeroDv_len {sc : Int} (h : 24 ≤ sc) : ((zeroDv sc).med.length : Int) = sc := by
  show ((List.replicate (newDv sc.toNat).med.length (fullS 0)).length : Int) = sc
  rw [List.length_replicate]
  show ((List.replicate sc.toNat (fullS 0)).length : Int) = sc
  rw [List.length_replicate]
  omega
end Go.Proofs.YtiffkbmcikiioaaGreat

/- The document's Of, Text, Fits (polderref06, polderref07), of any block. -/
namespace Go.Proofs.YtiffkbmcikiioaaGreat
set_option maxRecDepth 100000
open Go.RowKit M

theorem refOf_any (l : List (Int × Int)) (sc : Int) (v : Value) (w : World) (h : Meas w v l sc) (k t z : Nat) (hB : Blk l sc k t z) :
    Calls Tryz.prog 23 #[v, .agg #[.int .i64 (k : Int), .int .i64 (t : Int)], .int .i64 (z : Int)] w fun e w' => ∃ v', e = .returned v' ∧ OwnC w.heap.size w' v' (colsOf l k t z) ∧ Below w.heap.size w w' := by
  obtain ⟨kk, u, hK⟩ := hB.kinded
  have hk := hB.hk
  have hlk : l[k] = (kk, (u : Int)) := by rw [← getD_at hk]; exact hK.grp
  have hfit := hB.fit
  have hb := hB.bounds
  have hs1 := hB.right.s1
  have htk := takesG_pos l[k] z (by have := hB.z1; omega) (by have := hB.z4; omega)
  rcases hK.ok with ⟨rfl, _, _, e, _⟩ | ⟨rfl, _, _, e, _⟩
  · have ht : (t : Int) ≤ 4096 := by
      rw [hlk] at hfit htk
      have hg : gives (0, (u : Int)) sc ≤ sc := by unfold gives; simp; omega
      omega
    rw [e]
    exact refOf_mir l sc v w h hB.right k hk u hlk t (by omega) ht z hB.z4
  · rw [e]
    exact refOf_par l sc v w h hB.right k hk u hlk t (by omega) z hB.z4

/-- Is a text of N bytes a block's? -/
def textB (N : Nat) : Bool := decide (0 < N) && decide (N ≤ 256) && decide (N % 64 = 0)
theorem text_may (l : List (Int × Int)) (sc k t : Int) (N : Nat) : (textB N && mayL l sc k t ((N / 64 : Nat) : Int)) = mayT l sc k t N := by
  unfold mayT
  cases hm : mayL l sc k t ((N / 64 : Nat) : Int) with
  | false => simp
  | true =>
    obtain ⟨k', t', z', _, _, hz, hB⟩ := mayL_iff.1 hm
    have h1 := hB.z1
    have h4 := hB.z4
    rw [Bool.and_true, Bool.and_true]
    unfold textB
    by_cases h : N % 64 = 0
    · simp [h]; omega
    · simp [h]
end Go.Proofs.YtiffkbmcikiioaaGreat

/- The document's Failed and Lost; how many devices of a block aren't here. -/
namespace Go.Proofs.YtiffkbmcikiioaaGreat
set_option maxRecDepth 100000
open Go.RowKit Go.Maps M

/-- Has one of the first m columns the device d? -/
def hasD (L : List C) (d : Nat) : Nat → Bool
  | 0 => false
  | m + 1 => hasD L d m || decide (devN L m = d)
theorem hasD_iff {L : List C} {d m : Nat} : hasD L d m = true ↔ ∃ j, j < m ∧ devN L j = d := by
  induction m with
  | zero => simp [hasD]
  | succ m ih =>
    rw [hasD, Bool.or_eq_true, ih, decide_eq_true_iff]
    constructor
    · rintro (⟨j, hj, e⟩ | e)
      · exact ⟨j, by omega, e⟩
      · exact ⟨m, by omega, e⟩
    · rintro ⟨j, hj, e⟩
      by_cases h : j = m
      · subst h; exact .inr e
      · exact .inl ⟨j, by omega, e⟩
/-- How many of the first k devices have a column, and aren't here. -/
def lackN (L : List C) (hr : Nat → Bool) : Nat → Nat
  | 0 => 0
  | k + 1 => if hasD L k L.length && !hr k then lackN L hr k + 1 else lackN L hr k
theorem lackN_eq (L : List C) (hr : Nat → Bool) (k : Nat) : lackN L hr k = ((List.range k).filter fun d => hasD L d L.length && !hr d).length := by
  induction k with
  | zero => rfl
  | succ k ih =>
    rw [lackN, List.range_succ, List.filter_append, List.length_append, ih]
    cases h : (hasD L k L.length && !hr k) <;> simp [h]
theorem faTo_nodup (hr : Nat → Bool) (L : List C) (m : Nat) : (faTo hr L m).Nodup ∧ ∀ d, d ∈ faTo hr L m ↔ (∃ j, j < m ∧ devN L j = d) ∧ hr d = false := by
  induction m with
  | zero => exact ⟨List.nodup_nil, fun d => by simp [faTo]⟩
  | succ m ih =>
    obtain ⟨h1, h2⟩ := ih
    rw [faTo]
    cases hh : hr (devN L m) with
    | true =>
      rw [if_pos rfl]
      refine ⟨h1, fun d => (h2 d).trans ⟨fun ⟨⟨j, hj, e⟩, hd⟩ => ⟨⟨j, by omega, e⟩, hd⟩, fun ⟨⟨j, hj, e⟩, hd⟩ => ⟨?_, hd⟩⟩⟩
      by_cases ej : j = m
      · subst ej
        rw [e, hd] at hh
        cases hh
      · exact ⟨j, by omega, e⟩
    | false =>
      rw [if_neg (by simp)]
      unfold putN
      split
      · rename_i hm
        refine ⟨h1, fun d => (h2 d).trans ⟨fun ⟨⟨j, hj, e⟩, hd⟩ => ⟨⟨j, by omega, e⟩, hd⟩, fun ⟨⟨j, hj, e⟩, hd⟩ => ?_⟩⟩
        by_cases ej : j = m
        · subst ej
          rw [← e]
          exact (h2 _).1 hm
        · exact ⟨⟨j, by omega, e⟩, hd⟩
      · rename_i hm
        refine ⟨List.nodup_append.2 ⟨h1, by simp, fun a ha b hb => by rw [List.mem_singleton.1 hb]; intro e; exact hm (e ▸ ha)⟩, fun d => ?_⟩
        rw [List.mem_append, List.mem_singleton, h2]
        constructor
        · rintro (⟨⟨j, hj, e⟩, hd⟩ | rfl)
          · exact ⟨⟨j, by omega, e⟩, hd⟩
          · exact ⟨⟨m, by omega, rfl⟩, hh⟩
        · rintro ⟨⟨j, hj, e⟩, hd⟩
          by_cases ej : j = m
          · subst ej; exact .inr e.symm
          · exact .inl ⟨⟨j, by omega, e⟩, hd⟩
theorem faTo_lack (hr : Nat → Bool) (L : List C) (n : Nat) (hn : ∀ j, j < L.length → devN L j < n) : (faTo hr L L.length).length = lackN L hr n := by
  rw [lackN_eq]
  obtain ⟨h1, h2⟩ := faTo_nodup hr L L.length
  apply List.Perm.length_eq
  rw [List.perm_ext_iff_of_nodup h1 (List.nodup_range.filter _)]
  intro d
  rw [h2, List.mem_filter, List.mem_range, Bool.and_eq_true, hasD_iff, Bool.not_eq_true']
  constructor
  · rintro ⟨⟨j, hj, e⟩, hd⟩
    exact ⟨by rw [← e]; exact hn j hj, ⟨j, hj, e⟩, hd⟩
  · rintro ⟨_, h, hd⟩
    exact ⟨h, hd⟩
theorem lackN_le (L : List C) (hr : Nat → Bool) (k : Nat) : lackN L hr k ≤ k := by
  induction k with
  | zero => exact Nat.le_refl _
  | succ k ih => rw [lackN]; split <;> omega
end Go.Proofs.YtiffkbmcikiioaaGreat

/- What a block reads as raw that was written to devices some of which aren't here; just when it is among the tries (no program is named here). -/
namespace Go.Proofs.YtiffkbmcikiioaaGreat
set_option maxRecDepth 100000
open Go.RowKit Go.Maps M

/-- What a column reads as behind writing: nothing of a device that isn't here. -/
theorem rawAt_wrote {L : List C} (hA : ApartN L) (ds : Nat → Dv) (aw : Nat → Bool) (E : List ByteArray) {j : Nat} (hj : j < L.length) : rawAt (wrTo ds aw L E L.length) aw L j = if hereB ds aw (devN L j) then E.getD j ⟨#[]⟩ else ⟨#[]⟩ := by
  rw [rawAt, wrTo_here]
  cases h : hereB ds aw (devN L j) with
  | true => rw [if_pos rfl, if_pos rfl, wrTo_now hA _ _ _ _ (Nat.le_refl _) j hj, if_pos ⟨hj, h⟩, strOf_data]
  | false => rfl
/-- Columns of devices that are here are as they are encoded, all others are missing. -/
structure Lacks (L : List C) (f : Nat → ByteArray) (hr : Nat → Bool) (G : List ByteArray) : Prop where
  len : G.length = L.length
  here : ∀ j, j < L.length → hr (devN L j) = true → G.getD j ⟨#[]⟩ = encAt L f j
  gone : ∀ j, j < L.length → hr (devN L j) = false → G.getD j ⟨#[]⟩ = ⟨#[]⟩
theorem lacks_raw {L : List C} {f : Nat → ByteArray} (hA : ApartN L) (ds : Nat → Dv) (aw : Nat → Bool) {hr : Nat → Bool} (hh : ∀ j, j < L.length → hereB ds aw (devN L j) = hr (devN L j)) : Lacks L f hr (rawL (wrTo ds aw L (encL L f) L.length) aw L) := by
  refine ⟨rawL_len _ _ _, fun j hj h => ?_, fun j hj h => ?_⟩
  · rw [rawL_at _ _ _ _ hj, rawAt_wrote hA _ _ _ hj, hh j hj, h, if_pos rfl, encL_getD L f j hj]
  · rw [rawL_at _ _ _ _ hj, rawAt_wrote hA _ _ _ hj, hh j hj, h]
    rfl
theorem Lacks.mis {L : List C} {f : Nat → ByteArray} {hr : Nat → Bool} {G : List ByteArray} (h : Lacks L f hr G) : Mis L f G := ⟨h.len, fun j hj => by
  cases e : hr (devN L j) with
  | true => exact .inl (h.here j hj e)
  | false => exact .inr (h.gone j hj e)⟩
theorem Lacks.hole {L : List C} {f : Nat → ByteArray} {hr : Nat → Bool} {G : List ByteArray} (h : Lacks L f hr G) {j : Nat} (hj : j < L.length) (e : hr (devN L j) = false) : isHole G j = true := by
  unfold isHole
  rw [h.gone j hj e]
  rfl
theorem lackN_congr (L : List C) {hr hr' : Nat → Bool} : ∀ n, (∀ i, i < n → hr i = hr' i) → lackN L hr n = lackN L hr' n := by
  intro n
  induction n with
  | zero => intro _; rfl
  | succ n ih =>
    intro h
    rw [lackN, lackN, h n (by omega), ih fun i hi => h i (by omega)]
/-- One of a range's devices is here: fewer than all lack. -/
theorem lackN_one (L : List C) (hr : Nat → Bool) (f u dn : Nat) (hL : ∀ j, j < L.length → f ≤ devN L j ∧ devN L j < f + u) (hd : dn < u) (hh : hr (f + dn) = true) : ∀ k, (k ≤ f + dn → lackN L hr k ≤ k - f) ∧ (f + dn < k → k ≤ f + u → lackN L hr k + 1 ≤ k - f) ∧ (f + u ≤ k → lackN L hr k + 1 ≤ u) := by
  intro k
  induction k with
  | zero => exact ⟨fun _ => Nat.zero_le _, fun h => by omega, fun h => by omega⟩
  | succ k ih =>
    obtain ⟨i1, i2, i3⟩ := ih
    rw [lackN]
    cases h : (hasD L k L.length && !hr k) with
    | false =>
      rw [if_neg (by simp)]
      refine ⟨fun h1 => by have := i1 (by omega); omega, fun h1 h2 => ?_, fun h1 => ?_⟩
      · by_cases e : k = f + dn
        · have := i1 (by omega); omega
        · have := i2 (by omega) (by omega); omega
      · by_cases e : f + u ≤ k
        · exact i3 e
        · by_cases e2 : k = f + dn
          · have := i1 (by omega); omega
          · have := i2 (by omega) (by omega); omega
    | true =>
      rw [if_pos rfl]
      rw [Bool.and_eq_true, hasD_iff] at h
      obtain ⟨⟨j, hj, e⟩, hk⟩ := h
      have h1 := hL j hj
      rw [e] at h1
      have hne : k ≠ f + dn := fun e2 => by
        rw [e2, hh] at hk
        cases hk
      refine ⟨fun h2 => by have := i1 (by omega); omega, fun h2 h3 => by have := i2 (by omega) (by omega); omega, fun h2 => by have := i2 (by omega) (by omega); omega⟩
/-- None of a range's devices is here: all of them lack. -/
theorem lackN_full (L : List C) (hr : Nat → Bool) (f u : Nat) (hL : ∀ d, d < u → hasD L (f + d) L.length = true ∧ hr (f + d) = false) : ∀ k, (k ≤ f + u → k - f ≤ lackN L hr k) ∧ (f + u ≤ k → u ≤ lackN L hr k) := by
  intro k
  induction k with
  | zero => exact ⟨fun _ => by omega, fun h => by omega⟩
  | succ k ih =>
    obtain ⟨i1, i2⟩ := ih
    rw [lackN]
    by_cases hin : f ≤ k ∧ k < f + u
    · have h1 := hL (k - f) (by omega)
      rw [show f + (k - f) = k by omega] at h1
      rw [h1.1, h1.2, Bool.not_false, Bool.and_self, if_pos rfl]
      exact ⟨fun h2 => by have := i1 (by omega); omega, fun h2 => by have := i1 (by omega); omega⟩
    · split
      · exact ⟨fun h2 => by omega, fun h2 => by
          by_cases e : f + u ≤ k
          · have := i2 e; omega
          · omega⟩
      · exact ⟨fun h2 => by omega, fun h2 => by
          by_cases e : f + u ≤ k
          · have := i2 e; omega
          · omega⟩
/-- The first columns of a Parity's block, as many as its group has devices, are of its first row. -/
theorem par_row0 : ∀ u : Nat, u < 9 → 3 ≤ u → ∀ z : Nat, z < 5 → 1 ≤ z → ∀ j : Nat, j < 6 → j < u → ∀ x ∈ ((parTo 0 0 u z).map rp)[j]?, x.1 = 0 := by
  intro u h9 h3 z h5 h1
  rcases (show u = 3 ∨ u = 4 ∨ u = 5 ∨ u = 6 ∨ u = 7 ∨ u = 8 by omega) with rfl | rfl | rfl | rfl | rfl | rfl <;> rcases (show z = 1 ∨ z = 2 ∨ z = 3 ∨ z = 4 by omega) with rfl | rfl | rfl | rfl <;> decide
section
variable {l : List (Int × Int)} {sc : Int} {k t z : Nat} {s : ByteArray} {kk : Int} {u : Nat} {L : List C} {f : Nat → ByteArray} {hr : Nat → Bool} {G : List ByteArray}
theorem Enc7.devE (h : Enc7 l sc k t z s kk u L f) {j : Nat} (hj : j < L.length) : devAt L j = (devN L j : Int) := by
  have h0 := h.blk.dev j (by rw [h.hL]; exact hj)
  have hL := h.hL
  subst hL
  rw [devAt_eq hj]
  unfold devN
  rw [List.getD_eq_getElem?_getD, List.getElem?_eq_getElem hj]
  show _ = (((colsOf l k t z)[j].dev.toNat : Nat) : Int)
  omega
theorem Enc7.ahead (h : Enc7 l sc k t z s kk u L f) : 0 ≤ aheadL l k := by
  have := (h.blk.right.bounds k (Nat.le_of_lt h.blk.hk)).1
  omega
theorem Enc7.grpE (h : Enc7 l sc k t z s kk u L f) : l[k]'h.blk.hk = (kk, (u : Int)) := by rw [← getD_at h.blk.hk]; exact h.kind.grp
theorem Enc7.devIn (h : Enc7 l sc k t z s kk u L f) : ∀ j, j < L.length → (aheadL l k).toNat ≤ devN L j ∧ devN L j < (aheadL l k).toNat + u := by
  intro j hj
  have e := h.devE hj
  have h0 := h.ahead
  have hL := h.hL
  subst hL
  have h1 := h.blk.laid.dev0 j hj
  have h2 := h.blk.laid.dev1 j hj
  rw [h.grpE] at h2
  rw [devAt_eq hj] at e
  simp only at h2
  omega
/-- A Mirror's device has a column. -/
theorem Enc7.devOf (h : Enc7 l sc k t z s kk u L f) (h0 : kk = 0) {dn : Nat} (hd : dn < u) : ∃ j, j < L.length ∧ devN L j = (aheadL l k).toNat + dn := by
  obtain ⟨_, hl, _⟩ := h.mir h0
  have hz := h.blk.z1
  have hb : dn * z + z ≤ u * z := by rw [← Nat.succ_mul]; exact Nat.mul_le_mul_right _ hd
  have hj : dn * z < L.length := by rw [hl]; omega
  have e := h.devE hj
  rw [h.devM h0 hj, Nat.mul_div_cancel _ hz] at e
  have := h.ahead
  exact ⟨dn * z, hj, by omega⟩
theorem Lacks.spo (hG : Lacks L f hr G) {d : Int} {mir : Bool} (h : ∀ j, j < L.length → hr (devN L j) = false → ((devAt L j == d) != mir) = true) : Spo L f d mir G := ⟨hG.len, fun j hj => by
  cases e : hr (devN L j) with
  | true => exact .inl (hG.here j hj e)
  | false => exact .inr ⟨h j hj e, .inl (by rw [hG.gone j hj e]; rfl)⟩⟩
theorem Enc7.foundM (h : Enc7 l sc k t z s kk u L f) (h0 : kk = 0) (hG : Lacks L f hr G) {n : Nat} (hn : ∀ j, j < L.length → devN L j < n) :
    (lackN L hr n < u → ∃ x, (x, s) ∈ triesOf l sc k t z G) ∧ (u ≤ lackN L hr n → triesOf l sc k t z G = []) := by
  have hA := h.ahead
  obtain ⟨_, _, hu1, _⟩ := h.mir h0
  have hN : (aheadL l k).toNat + u ≤ n := by
    obtain ⟨j, hj, e⟩ := h.devOf h0 (dn := u - 1) (by omega)
    have := hn j hj
    omega
  constructor
  · intro hlt
    have hex : ∃ dn, dn < u ∧ hr ((aheadL l k).toNat + dn) = true := by
      refine Classical.byContradiction fun hno => ?_
      have := (lackN_full L hr (aheadL l k).toNat u (fun d hd => ⟨hasD_iff.2 (h.devOf h0 hd), by
        cases e : hr ((aheadL l k).toNat + d) with
        | false => rfl
        | true => exact absurd ⟨d, hd, e⟩ hno⟩) n).2 hN
      omega
    obtain ⟨dn, hd, he⟩ := hex
    refine h.oneM h0 hd (hG.spo fun j hj hg => ?_)
    have hne : devAt L j ≠ aheadL l k + (dn : Int) := fun e => by
      rw [h.devE hj] at e
      rw [show devN L j = (aheadL l k).toNat + dn by omega, he] at hg
      cases hg
    rw [beq_eq_false_iff_ne.2 hne]
    rfl
  · intro hge
    have hall : ∀ j, j < L.length → hr (devN L j) = false := fun j hj => by
      cases e : hr (devN L j) with
      | false => rfl
      | true =>
        have hi := h.devIn j hj
        have := (lackN_one L hr (aheadL l k).toNat u (devN L j - (aheadL l k).toNat) h.devIn (by omega) (by rw [show (aheadL l k).toNat + (devN L j - (aheadL l k).toNat) = devN L j by omega]; exact e) n).2.2 hN
        omega
    have h2 := (h.lessM h0 hG.mis).2
    refine List.eq_nil_of_length_eq_zero (Nat.eq_zero_of_not_pos fun hp => ?_)
    obtain ⟨a, ha, hm⟩ := h2.1 hp
    have := miss_zero hm ha (by simp)
    rw [hG.hole ha (hall a ha)] at this
    cases this
theorem Enc7.foundP (h : Enc7 l sc k t z s kk u L f) (h1 : kk = 1) (hG : Lacks L f hr G) :
    ((faTo hr L L.length).length ≤ 1 → ∃ x, (x, s) ∈ triesOf l sc k t z G) ∧ (1 < (faTo hr L L.length).length → triesOf l sc k t z G = []) := by
  obtain ⟨hnd, hmem⟩ := faTo_nodup hr L L.length
  constructor
  · intro hle
    match hm : faTo hr L L.length, hle with
    | [], _ =>
      refine h.oneP h1 (d := -1) (hG.spo fun j hj hg => ?_)
      have : devN L j ∈ faTo hr L L.length := (hmem _).2 ⟨⟨j, hj, rfl⟩, hg⟩
      rw [hm] at this
      cases this
    | [d], _ =>
      refine h.oneP h1 (d := (d : Int)) (hG.spo fun j hj hg => ?_)
      have : devN L j ∈ faTo hr L L.length := (hmem _).2 ⟨⟨j, hj, rfl⟩, hg⟩
      rw [hm, List.mem_singleton] at this
      rw [h.devE hj, this]
      simp
  · intro hgt
    match hm : faTo hr L L.length, hgt with
    | a :: b :: r, _ =>
      rw [hm] at hnd hmem
      have hab : a ≠ b := by
        have := (List.nodup_cons.1 hnd).1
        exact fun e => this (by rw [e]; simp)
      obtain ⟨⟨i, hi, ei⟩, hri⟩ := (hmem a).1 (by simp)
      obtain ⟨⟨j, hj, ej⟩, hrj⟩ := (hmem b).1 (by simp)
      rcases h.kind.ok with h2 | ⟨_, h3, h8, e, _⟩
      · exact absurd (h1.symm.trans h2.1) (by decide)
      · have hz1 := h.blk.z1
        have hz4 := h.blk.z4
        have hl6 : L.length ≤ 6 := by rw [e, parTo_len0]; exact (par_fits u (by omega) h3 z (by omega) hz1).2.2
        have hdev : ∀ i (hi : i < L.length), L[i].dev = aheadL l k + (((t + i) % u : Nat) : Int) := fun i hi => by
          subst e
          obtain ⟨r, p, e⟩ := parTo_get (aheadL l k) t u z i hi
          rw [e]
          rfl
        have hrow : ∀ i, i < L.length → i < u → rowAt L i = 0 := fun i hi hu => by
          have := par_row0 u (by omega) h3 z (by omega) hz1 i (by omega) hu (rp L[i]) (by
            rw [← parTo_shape (aheadL l k) t u z, ← e, List.getElem?_map, List.getElem?_eq_getElem hi]
            rfl)
          rw [rowAt_eq hi]
          exact this
        have hmod : ∀ i, (t + i % u) % u = (t + i) % u := fun i => by rw [Nat.add_mod_mod]
        have hlt : ∀ i, i < L.length → i % u < L.length := fun i hi => Nat.lt_of_le_of_lt (Nat.mod_le _ _) hi
        have hsame : ∀ i, i < L.length → devN L (i % u) = devN L i := fun i hi => by
          have e1 := h.devE hi
          have e2 := h.devE (hlt i hi)
          rw [devAt_eq hi, hdev i hi] at e1
          rw [devAt_eq (hlt i hi), hdev _ (hlt i hi), hmod] at e2
          omega
        refine h.noneP h1 hG.mis (i := i % u) (j := j % u) (hlt i hi) (hlt j hj) (fun e => ?_) ?_ (hG.hole (hlt i hi) (by rw [hsame i hi, ei]; exact hri)) (hG.hole (hlt j hj) (by rw [hsame j hj, ej]; exact hrj))
        · have := hsame i hi
          rw [e, hsame j hj] at this
          exact hab (by omega)
        · rw [hrow _ (hlt i hi) (Nat.mod_lt _ (by omega)), hrow _ (hlt j hj) (Nat.mod_lt _ (by omega))]
/-- What Write says: too many lack, just if the text is among no tries of what is read raw. -/
theorem Enc7.found (h : Enc7 l sc k t z s kk u L f) (hG : Lacks L f hr G) {n : Nat} (hn : ∀ j, j < L.length → devN L j < n) {N : Nat} (hN : (faTo hr L L.length).length = N) {er : Int} (he : errN (l[k]'h.blk.hk) N = er) :
    (er = 0 ∧ ∃ x, (x, s) ∈ triesOf l sc k t z G) ∨ (er = 6 ∧ triesOf l sc k t z G = []) := by
  rw [h.grpE] at he
  unfold errN spareN at he
  simp only at he
  rcases h.kind.ok with h0 | h1
  · have hf := h.foundM h0.1 hG hn
    rw [← faTo_lack hr L n hn, hN] at hf
    rw [if_pos h0.1] at he
    by_cases hlt : N < u
    · rw [if_neg (by omega)] at he
      exact .inl ⟨he.symm, hf.1 hlt⟩
    · rw [if_pos (by omega)] at he
      exact .inr ⟨he.symm, hf.2 (by omega)⟩
  · have hf := h.foundP h1.1 hG
    rw [hN] at hf
    have hk1 : ¬ kk = 0 := by rw [h1.1]; decide
    rw [if_neg hk1] at he
    by_cases hlt : N ≤ 1
    · rw [if_neg (by omega)] at he
      exact .inl ⟨he.symm, hf.1 hlt⟩
    · rw [if_pos (by omega)] at he
      exact .inr ⟨he.symm, hf.2 (by omega)⟩
end
end Go.Proofs.YtiffkbmcikiioaaGreat

/- What devices read as behind a mending (no program is named here). -/
namespace Go.Proofs.YtiffkbmcikiioaaGreat
set_option maxRecDepth 100000
open Go.RowKit Go.Maps M

/-- Does the number j stand among the first m? -/
def amongN (q : Nat → Int) (j : Nat) : Nat → Bool
  | 0 => false
  | m + 1 => amongN q j m || decide (q m = (j : Int))
theorem meTo_now {L : List C} (hA : ApartN L) (ds : Nat → Dv) (aw : Nat → Bool) (E : List ByteArray) (q : Nat → Int) (hh : ∀ d, hereB ds aw d = true) : ∀ m, ∀ j, j < L.length → (meTo ds aw L E q m (devN L j)).now (atN L j) = if amongN q j m = true then (E.getD j ⟨#[]⟩).data.toList else (ds (devN L j)).now (atN L j) := by
  intro m
  induction m with
  | zero => intro j _; simp [meTo, amongN]
  | succ m ih =>
    intro j hj
    rw [meTo, amongN]
    by_cases hok : okAt L.length (q m) = true
    · rw [if_pos hok, putD_now, meTo_here, hh, ih j hj]
      obtain ⟨r, hr⟩ : ∃ r : Nat, q m = (r : Int) := by
        unfold okAt at hok
        simp at hok
        exact ⟨(q m).toNat, by omega⟩
      have hrL : r < L.length := by
        unfold okAt at hok
        rw [hr] at hok
        simp at hok
        omega
      rw [hr, Int.toNat_natCast]
      by_cases e : j = r
      · subst e; simp
      · have hne : ¬ (true = true ∧ devN L j = devN L r ∧ atN L j = atN L r) := fun h => e (hA j r hj hrL h.2.1 h.2.2)
        rw [if_neg hne]
        have : decide ((r : Int) = (j : Int)) = false := by rw [decide_eq_false_iff_not]; omega
        rw [this, Bool.or_false]
    · rw [if_neg hok, ih j hj]
      have : decide (q m = (j : Int)) = false := by
        rw [decide_eq_false_iff_not]
        intro e
        apply hok
        unfold okAt
        rw [e]
        simp
        omega
      rw [this, Bool.or_false]
theorem wrTo_lost (ds : Nat → Dv) (aw : Nat → Bool) (L : List C) (E : List ByteArray) (m i : Nat) : (wrTo ds aw L E m i).lost = (ds i).lost := by
  induction m with
  | zero => rfl
  | succ m ih =>
    rw [wrTo, ← ih]
    unfold putD
    split
    · unfold upd
      split
      · rename_i e; subst e; rfl
      · rfl
    · rfl
theorem meTo_lost (ds : Nat → Dv) (aw : Nat → Bool) (L : List C) (E : List ByteArray) (q : Nat → Int) (m i : Nat) : (meTo ds aw L E q m i).lost = (ds i).lost := by
  induction m with
  | zero => rfl
  | succ m ih =>
    rw [meTo, ← ih]
    split
    · unfold putD
      split
      · unfold upd
        split
        · rename_i e; subst e; rfl
        · rfl
      · rfl
    · rfl
/-- How many of the first m are places of columns. -/
def wantN (L : Nat) (q : Nat → Int) : Nat → Nat
  | 0 => 0
  | m + 1 => if okAt L (q m) then wantN L q m + 1 else wantN L q m
theorem meN_want (hr : Nat → Bool) (hh : ∀ d, hr d = true) (L : List C) (q : Nat → Int) (m : Nat) : meN hr L q m = wantN L.length q m := by
  induction m with
  | zero => rfl
  | succ m ih => rw [meN, wantN, hh, Bool.and_true, ih]
theorem wantN_le (L : Nat) (q : Nat → Int) (m : Nat) : wantN L q m ≤ m := by
  induction m with
  | zero => exact Nat.le_refl _
  | succ m ih => rw [wantN]; split <;> omega
end Go.Proofs.YtiffkbmcikiioaaGreat

/- What a block is read as: the first try that has a sum; what its columns are behind a mending (no program is named here). -/
namespace Go.Proofs.YtiffkbmcikiioaaGreat
set_option maxRecDepth 100000
open Go.RowKit Go.Maps M

/-- A text's sum. -/
def sumB (s : ByteArray) : Q := sumQ zeroQ (wordsB s)
def sameQ (x y : Q) : Bool := eq4 (x.a : Int) x.b x.c x.d y.a y.b y.c y.d
theorem sameQ_iff {x y : Q} : sameQ x y = true ↔ x = y := by
  unfold sameQ
  rw [eq4_nat, decide_eq_true_iff]
  exact ⟨fun ⟨a, b, c, d⟩ => Q.ext' a b c d, fun h => by subst h; exact ⟨rfl, rfl, rfl, rfl⟩⟩
/-- The first try that has a sum. -/
def hitQ (q : Q) (xs : List (Int × ByteArray)) : Option (Int × ByteArray) := xs.find? fun y => sameQ (sumB y.2) q
theorem hitQ_some {q : Q} {xs : List (Int × ByteArray)} {y : Int × ByteArray} (h : hitQ q xs = some y) : y ∈ xs ∧ sumB y.2 = q :=
  ⟨List.mem_of_find?_eq_some h, sameQ_iff.1 (List.find?_some (p := fun y : Int × ByteArray => sameQ (sumB y.2) q) h)⟩
theorem hitQ_none {q : Q} {xs : List (Int × ByteArray)} (h : hitQ q xs = none) : ∀ y ∈ xs, sumB y.2 ≠ q := fun y hy e => by
  have := List.find?_eq_none.1 h y hy
  exact this (sameQ_iff.2 e)
theorem hitQ_ex {q : Q} {xs : List (Int × ByteArray)} {x : Int} {s : ByteArray} (h : (x, s) ∈ xs) (hs : sumB s = q) : ∃ y, hitQ q xs = some y := by
  cases e : hitQ q xs with
  | some y => exact ⟨y, rfl⟩
  | none => exact absurd hs (hitQ_none e _ h)
theorem hitQ_all {q : Q} {xs : List (Int × ByteArray)} {s : ByteArray} (h : ∀ y ∈ xs, y.2 = s) (hs : sumB s = q) (hne : xs ≠ []) : ∃ d, hitQ q xs = some (d, s) := by
  cases xs with
  | nil => exact absurd rfl hne
  | cons y r =>
    have hy := h y List.mem_cons_self
    refine ⟨y.1, ?_⟩
    have e : (fun y : Int × ByteArray => sameQ (sumB y.2) q) y = true := sameQ_iff.2 (by rw [hy]; exact hs)
    unfold hitQ
    rw [List.find?_cons_of_pos (p := fun y : Int × ByteArray => sameQ (sumB y.2) q) e, ← hy]

/-- Texts of the same sizes. -/
def SameSz (G H : List ByteArray) : Prop := G.map ByteArray.size = H.map ByteArray.size
theorem SameSz.len {G H : List ByteArray} (h : SameSz G H) : G.length = H.length := by
  have := congrArg List.length h
  simpa using this
theorem getD_size (G : List ByteArray) (j : Nat) : (G.getD j ⟨#[]⟩).size = (G.map ByteArray.size).getD j 0 := by
  rw [List.getD_eq_getElem?_getD, List.getD_eq_getElem?_getD, List.getElem?_map]
  cases G[j]? <;> rfl
theorem SameSz.at_ {G H : List ByteArray} (h : SameSz G H) (j : Nat) : (G.getD j ⟨#[]⟩).size = (H.getD j ⟨#[]⟩).size := by
  rw [getD_size, getD_size, h]
theorem SameSz.hole {l m : List ByteArray} (h : SameSz l m) : holeL l = holeL m := by
  have e : ∀ l : List ByteArray, holeL l = (l.map ByteArray.size).any (· == 0) := fun l => by unfold holeL; rw [List.any_map]; rfl
  rw [e, e, h]
theorem SameSz.wide {l m : List ByteArray} (h : SameSz l m) : wide l = wide m := by
  cases l with
  | nil =>
    cases m with
    | nil => rfl
    | cons b q => have := h.len; simp at this
  | cons a r =>
    cases m with
    | nil => have := h.len; simp at this
    | cons b q =>
      unfold SameSz at h
      simp only [List.map_cons, List.cons.injEq] at h
      exact h.1
theorem SameSz.mk {l m : List ByteArray} (h : SameSz l m) : (mkB l).size = (mkB m).size := by
  have ho : okL l = okL m := by
    unfold okL evenL
    have e : ∀ (n : Nat) (l : List ByteArray), (l.all fun s => s.size == n) = (l.map ByteArray.size).all (· == n) := fun n l => by rw [List.all_map]; rfl
    have e2 : l.isEmpty = m.isEmpty := by
      rw [Bool.eq_iff_iff, List.isEmpty_iff_length_eq_zero, List.isEmpty_iff_length_eq_zero, h.len]
    rw [e, e, h.wide, e2, h]
  unfold mkB
  rw [ho]
  split
  · rw [parB_size, parB_size, h.wide]
  · rfl
theorem eraseIdx_map' {α β : Type} (f : α → β) : ∀ (l : List α) (i : Nat), (l.eraseIdx i).map f = (l.map f).eraseIdx i
  | [], i => by simp
  | a :: r, 0 => by simp
  | a :: r, i + 1 => by simp [eraseIdx_map' f r i]
theorem SameSz.row {L : List C} {G H : List ByteArray} (h : SameSz G H) (r : Int) (k : Nat) : SameSz (rowG L G r k) (rowG L H r k) := by
  unfold SameSz rowG
  rw [List.map_map, List.map_map]
  exact List.map_congr_left fun j _ => h.at_ j
theorem SameSz.agn {L : List C} {G H : List ByteArray} (h : SameSz G H) (a : Nat) : (agn L G a).size = (agn L H a).size := by
  unfold Proofs.YtiffkbmcikiioaaGreat.agn
  apply SameSz.mk
  unfold SameSz
  rw [eraseIdx_map', eraseIdx_map', (h.row (L := L) (rowAt L a) a).len, h.row (L := L) (rowAt L a) L.length]
theorem SameSz.wth {L : List C} {G H : List ByteArray} (h : SameSz G H) (d : Int) (k : Nat) : SameSz (wth L G d k) (wth L H d k) := by
  unfold SameSz Proofs.YtiffkbmcikiioaaGreat.wth
  rw [List.map_map, List.map_map]
  refine List.map_congr_left fun j _ => ?_
  show (if devAt L j = d then Proofs.YtiffkbmcikiioaaGreat.agn L G j else G.getD j ⟨#[]⟩).size = (if devAt L j = d then Proofs.YtiffkbmcikiioaaGreat.agn L H j else H.getD j ⟨#[]⟩).size
  split
  · exact h.agn j
  · exact h.at_ j
theorem SameSz.chunk {G H : List ByteArray} (h : SameSz G H) (z d : Nat) : SameSz (chunk G z d) (chunk H z d) := by
  unfold SameSz Proofs.YtiffkbmcikiioaaGreat.chunk
  rw [List.map_take, List.map_drop, List.map_take, List.map_drop, h]
theorem SameSz.try_ {l m : List ByteArray} (h : SameSz l m) (d : Int) : (tryOf d l).isSome = (tryOf d m).isSome := by
  unfold tryOf
  rw [h.hole]
  split <;> rfl
theorem filterMap_len {α β : Type} {f g : α → Option β} : ∀ l : List α, (∀ x ∈ l, (f x).isSome = (g x).isSome) → (l.filterMap f).length = (l.filterMap g).length
  | [], _ => rfl
  | a :: r, h => by
    have ha := h a List.mem_cons_self
    have ih := filterMap_len r fun x hx => h x (List.mem_cons_of_mem _ hx)
    cases hf : f a with
    | none =>
      cases hg : g a with
      | none => rw [List.filterMap_cons_none hf, List.filterMap_cons_none hg, ih]
      | some y => rw [hf, hg] at ha; cases ha
    | some x =>
      cases hg : g a with
      | none => rw [hf, hg] at ha; cases ha
      | some y => rw [List.filterMap_cons_some hf, List.filterMap_cons_some hg, List.length_cons, List.length_cons, ih]

/-- Sizes of columns: nothing, or a sector's. -/
def SecSz (G : List ByteArray) : Prop := ∀ x ∈ G, x.size = 0 ∨ x.size = 64
theorem SecSz.at_ {G : List ByteArray} (h : SecSz G) (j : Nat) : (G.getD j ⟨#[]⟩).size = 0 ∨ (G.getD j ⟨#[]⟩).size = 64 := by
  rw [List.getD_eq_getElem?_getD]
  cases e : G[j]? with
  | none => exact .inl rfl
  | some x => exact h x (List.mem_of_getElem? e)
theorem SecSz.mk {l : List ByteArray} (h : SecSz l) : (mkB l).size = 0 ∨ (mkB l).size = 64 := by
  unfold mkB
  split
  · rename_i ho
    rw [parB_size]
    cases l with
    | nil => exact .inl rfl
    | cons a r => exact h a List.mem_cons_self
  · exact .inl rfl
theorem SecSz.agn {L : List C} {G : List ByteArray} (h : SecSz G) (a : Nat) : (agn L G a).size = 0 ∨ (agn L G a).size = 64 := by
  unfold Proofs.YtiffkbmcikiioaaGreat.agn
  apply SecSz.mk
  intro x hx
  have := List.mem_of_mem_eraseIdx hx
  unfold rowG at this
  obtain ⟨j, _, rfl⟩ := List.mem_map.1 this
  exact h.at_ j
section
variable {l : List (Int × Int)} {sc : Int} {k t z : Nat} {s : ByteArray} {kk : Int} {u : Nat} {L : List C} {f : Nat → ByteArray}
theorem Enc7.triesSz (h : Enc7 l sc k t z s kk u L f) {G H : List ByteArray} (hl : G.length = L.length) (hG : SecSz G) (hS : SameSz G H) (hH : SecSz H) : (triesOf l sc k t z G).length = (triesOf l sc k t z H).length := by
  rw [h.tries hl hG, h.tries (hS.len.symm.trans hl) hH]
  split
  · exact filterMap_len _ fun d _ => (hS.chunk z d).try_ _
  · exact filterMap_len _ fun d _ => (hS.wth d _).try_ _
theorem tryOf_text {d : Int} {m : List ByteArray} {y : Int × ByteArray} (h : tryOf d m = some y) (hm : ∀ x ∈ m, x.size = 0 ∨ x.size = 64) : y.2.size = m.length * 64 := by
  unfold tryOf at h
  cases hh : holeL m with
  | true => rw [hh] at h; cases h
  | false =>
    rw [hh] at h
    cases h
    refine joinB_size fun x hx => ?_
    rcases hm x hx with e | e
    · exact absurd e (no_hole hh hx)
    · exact e
/-- A try has the block's size. -/
theorem Enc7.trySz (h : Enc7 l sc k t z s kk u L f) {G : List ByteArray} (hl : G.length = L.length) (hG : SecSz G) : ∀ y ∈ triesOf l sc k t z G, y.2.size = z * 64 := by
  rw [h.tries hl hG]
  intro y hy
  by_cases h0 : kk = 0
  · rw [if_pos h0] at hy
    obtain ⟨d, hd, e⟩ := List.mem_filterMap.1 hy
    obtain ⟨_, hl2, _⟩ := h.mir h0
    have hc := chunk_map (G := G) (u := u) (z := z) (d := d) (by rw [hl, hl2]) (List.mem_range.1 hd)
    rw [tryOf_text e (fun x hx => by rw [hc] at hx; obtain ⟨i, _, rfl⟩ := List.mem_map.1 hx; exact hG.at_ _), hc]
    simp
  · rw [if_neg h0] at hy
    have h1 : kk = 1 := by
      rcases h.kind.ok with e | e
      · exact absurd e.1 h0
      · exact e.1
    obtain ⟨d, _, e⟩ := List.mem_filterMap.1 hy
    have hw : (wth L G d L.length).length = z := by
      have e := congrArg List.length (data_map (L := L) (fun _ => (⟨#[]⟩ : ByteArray)) L.length (Nat.le_refl _))
      rw [List.length_map, List.length_map, List.length_range, h.dataN h1] at e
      unfold wth
      rw [List.length_map]
      exact e
    rw [tryOf_text e (fun x hx => ?_), hw]
    unfold wth at hx
    obtain ⟨j, _, rfl⟩ := List.mem_map.1 hx
    split
    · exact hG.agn j
    · exact hG.at_ j

/-- What columns read as behind their mending. -/
def fixL (hr : Nat → Bool) (L : List C) (E G : List ByteArray) : List ByteArray := (List.range L.length).map fun j => if hr (devN L j) then E.getD j ⟨#[]⟩ else G.getD j ⟨#[]⟩
theorem fixL_len (hr : Nat → Bool) (L : List C) (E G : List ByteArray) : (fixL hr L E G).length = L.length := by simp [fixL]
theorem fixL_at (hr : Nat → Bool) (L : List C) (E G : List ByteArray) {j : Nat} (hj : j < L.length) : (fixL hr L E G).getD j ⟨#[]⟩ = if hr (devN L j) then E.getD j ⟨#[]⟩ else G.getD j ⟨#[]⟩ := by
  unfold fixL
  rw [List.getD_eq_getElem?_getD, List.getElem?_map, List.getElem?_range hj]
  rfl
/-- What columns read as: sectors, or nothing, where a device isn't here. -/
structure RawF (hr : Nat → Bool) (L : List C) (G : List ByteArray) : Prop where
  len : G.length = L.length
  here : ∀ j, j < L.length → hr (devN L j) = true → (G.getD j ⟨#[]⟩).size = 64
  gone : ∀ j, j < L.length → hr (devN L j) = false → G.getD j ⟨#[]⟩ = ⟨#[]⟩
theorem RawF.secs {hr : Nat → Bool} {L : List C} {G : List ByteArray} (h : RawF hr L G) : SecSz G := fun x hx => by
  obtain ⟨j, hj, rfl⟩ := mem_getD hx
  rw [h.len] at hj
  cases e : hr (devN L j) with
  | true => exact .inr (h.here j hj e)
  | false => exact .inl (by rw [h.gone j hj e]; rfl)
theorem RawF.ext {hr : Nat → Bool} {L : List C} {G H : List ByteArray} (h : RawF hr L G) (k : RawF hr L H) : SameSz G H := by
  unfold SameSz
  apply List.ext_getElem
  · rw [List.length_map, List.length_map, h.len, k.len]
  · intro j h1 h2
    rw [List.length_map] at h1 h2
    rw [List.getElem_map, List.getElem_map]
    have e1 : G[j].size = (G.getD j ⟨#[]⟩).size := by rw [List.getD_eq_getElem?_getD, List.getElem?_eq_getElem h1]; rfl
    have e2 : H[j].size = (H.getD j ⟨#[]⟩).size := by rw [List.getD_eq_getElem?_getD, List.getElem?_eq_getElem h2]; rfl
    have hj : j < L.length := by rw [← h.len]; exact h1
    rw [e1, e2]
    cases e : hr (devN L j) with
    | true => rw [h.here j hj e, k.here j hj e]
    | false => rw [h.gone j hj e, k.gone j hj e]
theorem Enc7.fixed (h : Enc7 l sc k t z s kk u L f) {hr : Nat → Bool} {G : List ByteArray} (hG : RawF hr L G) : Lacks L f hr (fixL hr L (encOf l k t z s) G) ∧ RawF hr L (fixL hr L (encOf l k t z s) G) := by
  rw [h.enc]
  refine ⟨⟨fixL_len _ _ _ _, fun j hj e => ?_, fun j hj e => ?_⟩, ⟨fixL_len _ _ _ _, fun j hj e => ?_, fun j hj e => ?_⟩⟩
  · rw [fixL_at _ _ _ _ hj, e, if_pos rfl, encL_getD L f j hj]
  · rw [fixL_at _ _ _ _ hj, e, if_neg (by simp), hG.gone j hj e]
  · rw [fixL_at _ _ _ _ hj, e, if_pos rfl, encL_getD L f j hj, enc_size h.sound h.hf j hj]
  · rw [fixL_at _ _ _ _ hj, e, if_neg (by simp), hG.gone j hj e]
theorem Lacks.raw (h : Enc7 l sc k t z s kk u L f) {hr : Nat → Bool} {G : List ByteArray} (hG : Lacks L f hr G) : RawF hr L G :=
  ⟨hG.len, fun j hj e => by rw [hG.here j hj e, enc_size h.sound h.hf j hj], hG.gone⟩
/-- All tries of columns that are right or missing are the text. -/
theorem Enc7.lessA (h : Enc7 l sc k t z s kk u L f) {G : List ByteArray} (hS : Mis L f G) : ∀ y ∈ triesOf l sc k t z G, y.2 = s := by
  rcases h.kind.ok with h0 | h1
  · exact (h.lessM h0.1 hS).1
  · exact h.lessP h1.1 hS
/-- Behind a mending there are as many tries, and each is the text. -/
theorem Enc7.mended (h : Enc7 l sc k t z s kk u L f) {hr : Nat → Bool} {G : List ByteArray} (hG : RawF hr L G) :
    (∀ y ∈ triesOf l sc k t z (fixL hr L (encOf l k t z s) G), y.2 = s) ∧ (triesOf l sc k t z (fixL hr L (encOf l k t z s) G)).length = (triesOf l sc k t z G).length := by
  obtain ⟨h1, h2⟩ := h.fixed hG
  exact ⟨h.lessA h1.mis, h.triesSz h2.len h2.secs (h2.ext hG) hG.secs⟩
end

/-- How many columns of devices that are here aren't as they are to be. -/
def unlN (hr : Nat → Bool) (L : List C) (E G : List ByteArray) : Nat := (List.range L.length).countP fun j => hr (devN L j) && neB (G.getD j ⟨#[]⟩) (E.getD j ⟨#[]⟩)
theorem unlN_le (hr : Nat → Bool) (L : List C) (E G : List ByteArray) : unlN hr L E G ≤ L.length := by
  have := List.countP_le_length (p := fun j => hr (devN L j) && neB (G.getD j ⟨#[]⟩) (E.getD j ⟨#[]⟩)) (l := List.range L.length)
  unfold unlN
  rwa [List.length_range] at this
theorem unlN_zero {hr : Nat → Bool} {L : List C} {E G : List ByteArray} (h : ∀ j, j < L.length → hr (devN L j) = true → G.getD j ⟨#[]⟩ = E.getD j ⟨#[]⟩) : unlN hr L E G = 0 := by
  unfold unlN
  rw [List.countP_eq_zero]
  intro j hj e
  rw [Bool.and_eq_true, neB_true] at e
  exact e.2 (h j (List.mem_range.1 hj) e.1)
theorem unlN_fix (hr : Nat → Bool) (L : List C) (E G : List ByteArray) : unlN hr L E (fixL hr L E G) = 0 := unlN_zero fun j hj e => by rw [fixL_at _ _ _ _ hj, e, if_pos rfl]
theorem unlN_all {hr : Nat → Bool} {L : List C} {E G : List ByteArray} (h : ∀ j, j < L.length → hr (devN L j) = true ∧ G.getD j ⟨#[]⟩ ≠ E.getD j ⟨#[]⟩) : unlN hr L E G = L.length := by
  unfold unlN
  have : (List.range L.length).countP (fun j => hr (devN L j) && neB (G.getD j ⟨#[]⟩) (E.getD j ⟨#[]⟩)) = (List.range L.length).length := by
    rw [List.countP_eq_length]
    intro j hj
    obtain ⟨h1, h2⟩ := h j (List.mem_range.1 hj)
    rw [h1, neB_true.2 h2]
    rfl
  rw [this, List.length_range]

theorem meTo_nowH {L : List C} (hA : ApartN L) (ds : Nat → Dv) (aw : Nat → Bool) (E : List ByteArray) (q : Nat → Int) : ∀ m, ∀ j, j < L.length → (meTo ds aw L E q m (devN L j)).now (atN L j) = if amongN q j m = true ∧ hereB ds aw (devN L j) = true then (E.getD j ⟨#[]⟩).data.toList else (ds (devN L j)).now (atN L j) := by
  intro m
  induction m with
  | zero => intro j _; simp [meTo, amongN]
  | succ m ih =>
    intro j hj
    rw [meTo, amongN]
    by_cases hok : okAt L.length (q m) = true
    · rw [if_pos hok, putD_now, meTo_here, ih j hj]
      obtain ⟨r, hr⟩ : ∃ r : Nat, q m = (r : Int) := by
        unfold okAt at hok
        simp at hok
        exact ⟨(q m).toNat, by omega⟩
      have hrL : r < L.length := by
        unfold okAt at hok
        rw [hr] at hok
        simp at hok
        omega
      rw [hr, Int.toNat_natCast]
      by_cases e : j = r
      · subst e
        cases hereB ds aw (devN L j) <;> simp
      · have hne : ¬ (hereB ds aw (devN L r) = true ∧ devN L j = devN L r ∧ atN L j = atN L r) := fun h => e (hA j r hj hrL h.2.1 h.2.2)
        rw [if_neg hne]
        have : decide ((r : Int) = (j : Int)) = false := by rw [decide_eq_false_iff_not]; omega
        rw [this, Bool.or_false]
    · rw [if_neg hok, ih j hj]
      have : decide (q m = (j : Int)) = false := by
        rw [decide_eq_false_iff_not]
        intro e
        apply hok
        unfold okAt
        rw [e]
        simp
        omega
      rw [this, Bool.or_false]
/-- A sector that is none of the columns' stays. -/
theorem meTo_other {L : List C} (ds : Nat → Dv) (aw : Nat → Bool) (E : List ByteArray) (q : Nat → Int) (d a : Nat) (h : ∀ j, j < L.length → ¬ (devN L j = d ∧ atN L j = a)) : ∀ m, (meTo ds aw L E q m d).now a = (ds d).now a := by
  intro m
  induction m with
  | zero => rfl
  | succ m ih =>
    rw [meTo]
    by_cases hok : okAt L.length (q m) = true
    · have hrL : (q m).toNat < L.length := by
        unfold okAt at hok
        simp at hok
        omega
      rw [if_pos hok, putD_now, if_neg (fun e => h _ hrL ⟨e.2.1.symm, e.2.2.symm⟩), ih]
    · rw [if_neg hok, ih]
/-- A list's numbers, as a function. -/
def numsF (m : List Int) (i : Nat) : Int := m.getD i 0
theorem among_take (l : List Int) (j : Nat) : ∀ m, m ≤ l.length → (amongN (numsF l) j m = true ↔ (j : Int) ∈ l.take m) := by
  intro m
  induction m with
  | zero => intro _; simp [amongN]
  | succ m ih =>
    intro hm
    rw [amongN, Bool.or_eq_true, ih (by omega), decide_eq_true_iff, List.take_add_one, List.getElem?_eq_getElem (by omega), List.mem_append]
    unfold numsF
    rw [List.getD_eq_getElem?_getD, List.getElem?_eq_getElem (by omega)]
    simp only [Option.getD_some, Option.toList_some, List.mem_singleton]
    constructor
    · rintro (h | h)
      · exact .inl h
      · exact .inr h.symm
    · rintro (h | h)
      · exact .inl h
      · exact .inr h.symm
theorem meN_take (hr : Nat → Bool) (L : List C) (l : List Int) : ∀ m, m ≤ l.length → meN hr L (numsF l) m = (l.take m).countP fun x => okAt L.length x && hr (devN L x.toNat) := by
  intro m
  induction m with
  | zero => intro _; simp [meN]
  | succ m ih =>
    intro hm
    have e : numsF l m = l[m] := by
      unfold numsF
      rw [List.getD_eq_getElem?_getD, List.getElem?_eq_getElem (by omega)]
      rfl
    rw [meN, ih (by omega), e, List.take_add_one, List.getElem?_eq_getElem (by omega), Option.toList_some, List.countP_append, List.countP_singleton]
    split <;> omega
theorem bad_mem {E G : List ByteArray} {n j : Nat} : (j : Int) ∈ badL E G n ↔ j < n ∧ neB (G.getD j ⟨#[]⟩) (E.getD j ⟨#[]⟩) = true := by
  unfold badL
  rw [List.mem_map]
  constructor
  · rintro ⟨i, hi, e⟩
    obtain rfl : i = j := by omega
    exact idx_mem.1 hi
  · intro h
    exact ⟨j, idx_mem.2 h, rfl⟩

/-- The devices behind a block's mending. -/
def fixS (ds : Nat → Dv) (aw : Nat → Bool) (L : List C) (E : List ByteArray) : Nat → Dv := meTo ds aw L E (numsF (badL E (rawL ds aw L) L.length)) (badL E (rawL ds aw L) L.length).length
theorem fixS_here (ds : Nat → Dv) (aw : Nat → Bool) (L : List C) (E : List ByteArray) : hereB (fixS ds aw L E) aw = hereB ds aw := meTo_here _ _ _ _ _ _
theorem fixS_raw {L : List C} (hA : ApartN L) (ds : Nat → Dv) (aw : Nat → Bool) (E : List ByteArray) : rawL (fixS ds aw L E) aw L = fixL (hereB ds aw) L E (rawL ds aw L) := by
  unfold rawL fixL
  refine List.map_congr_left fun j hj => ?_
  have hj := List.mem_range.1 hj
  rw [show (List.range L.length).map (rawAt ds aw L) = rawL ds aw L from rfl, rawL_at _ _ _ _ hj, rawAt, fixS_here, rawAt]
  cases hh : hereB ds aw (devN L j) with
  | false => rfl
  | true =>
    rw [if_pos rfl, if_pos rfl]
    unfold fixS
    rw [meTo_nowH hA _ _ _ _ _ j hj, hh]
    cases hn : neB ((rawL ds aw L).getD j ⟨#[]⟩) (E.getD j ⟨#[]⟩) with
    | true =>
      rw [if_pos ⟨(among_take _ j _ (Nat.le_refl _)).2 (by rw [List.take_length]; exact bad_mem.2 ⟨hj, hn⟩), rfl⟩, strOf_data]
    | false =>
      rw [if_neg]
      · have := neB_false.1 hn
        rw [rawL_at _ _ _ _ hj, rawAt, hh, if_pos rfl] at this
        exact this
      · rintro ⟨h, _⟩
        have := (among_take _ j _ (Nat.le_refl _)).1 h
        rw [List.take_length, bad_mem, hn] at this
        cases this.2
theorem fixS_other {L M : List C} (ds : Nat → Dv) (aw : Nat → Bool) (E : List ByteArray) (h : ∀ i j, i < L.length → j < M.length → ¬ (devN L i = devN M j ∧ atN L i = atN M j)) : rawL (fixS ds aw L E) aw M = rawL ds aw M := by
  unfold rawL
  refine List.map_congr_left fun j hj => ?_
  have hj := List.mem_range.1 hj
  rw [rawAt, fixS_here, rawAt]
  cases hereB ds aw (devN M j) with
  | false => rfl
  | true =>
    rw [if_pos rfl, if_pos rfl]
    unfold fixS
    rw [meTo_other _ _ _ _ _ _ fun i hi => h i j hi hj]
theorem fixS_count (ds : Nat → Dv) (aw : Nat → Bool) (L : List C) (E : List ByteArray) : meN (hereB ds aw) L (numsF (badL E (rawL ds aw L) L.length)) (badL E (rawL ds aw L) L.length).length = unlN (hereB ds aw) L E (rawL ds aw L) := by
  rw [meN_take _ _ _ _ (Nat.le_refl _), List.take_length]
  unfold badL unlN idx
  rw [List.countP_map, List.countP_filter]
  refine List.countP_congr fun j hj => ?_
  have hj := List.mem_range.1 hj
  have : okAt L.length (j : Int) = true := by unfold okAt; simp [hj]
  simp only [Function.comp, Int.toNat_natCast, this, Bool.true_and]
end Go.Proofs.YtiffkbmcikiioaaGreat
