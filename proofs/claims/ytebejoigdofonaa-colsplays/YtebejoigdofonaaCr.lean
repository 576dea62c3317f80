/-
  The devices of a block's columns: how many there are.
-/
import Derived.Test.YtebejoigdofonaaCn
import Derived.Test.YtebejoigdofonaaCp
namespace Go.Proofs.Ytebejoigdofonaa
open Go.RowKit

structure Devd (f kk : Int) (u z : Nat) (L : List C) (D : List Int) : Prop where
  in_ : ∀ j (h : j < D.length), f ≤ D[j] ∧ D[j] < f + u
  up : ∀ j (h : j + 1 < D.length), D[j] < D[j + 1]
  pos : 0 < D.length
  few : D.length ≤ 32
  mir : kk = 0 → D.length = u ∧ L.length = z * u
  par : kk = 1 → D.length = (if L.length < u then L.length else u) ∧ z < L.length ∧ (L.length : Int) ≤ takesG (kk, (u : Int)) z
theorem devd (f kk : Int) (u : Nat) (s : Int) (t z : Nat) (hok : okG (kk, (u : Int)) = true) (z1 : 1 ≤ z) (z4 : z ≤ 4) (fit : (t : Int) + takesG (kk, (u : Int)) z ≤ gives (kk, (u : Int)) s) :
    Devd f kk u z (colsG f (kk, (u : Int)) t z) (devsS ((colsG f (kk, (u : Int)) t z).map C.dev)) := by
  have hL := laid f kk u s t z hok z1 z4 fit
  obtain ⟨h1, h2⟩ := devsS_spec ((colsG f (kk, (u : Int)) t z).map C.dev)
  have hu8 := okG_wide hok
  dsimp only at hu8
  refine ⟨fun j h => ?_, fun j h => List.pairwise_iff_getElem.1 h1 j (j + 1) (by omega) h (by omega), devsS_pos (by rw [List.length_map]; exact hL.pos), Nat.le_trans (devsS_le _) (by rw [List.length_map]; exact hL.few), fun e => ?_, fun e => ?_⟩
  · obtain ⟨c, hc, e⟩ := List.mem_map.1 ((h2 _).1 (List.getElem_mem h))
    obtain ⟨i, hi, rfl⟩ := List.getElem_of_mem hc
    rw [← e]
    exact ⟨hL.dev0 i hi, hL.dev1 i hi⟩
  · subst e
    have e : colsG f (0, (u : Int)) t z = mirL f t u z := by unfold colsG; rw [if_pos rfl]; simp
    rw [e]
    have hzp : 0 < z := by omega
    refine ⟨devsS_run (f := f) fun x => ?_, by rw [mirL_len, Nat.mul_comm]⟩
    rw [List.mem_map]
    constructor
    · rintro ⟨c, hc, rfl⟩
      obtain ⟨i, hi, rfl⟩ := List.getElem_of_mem hc
      have a := hL.dev0
      have b := hL.dev1
      rw [e] at a b
      exact ⟨a i hi, b i hi⟩
    · rintro ⟨ha, hb⟩
      obtain ⟨d, hd⟩ := Int.eq_ofNat_of_zero_le (show 0 ≤ x - f by omega)
      have hdu : d < u := by omega
      have hj : d * z < (mirL f t u z).length := by
        rw [mirL_len]
        have : (d + 1) * z ≤ u * z := Nat.mul_le_mul_right z hdu
        rw [Nat.add_mul, Nat.one_mul] at this
        omega
      refine ⟨_, List.getElem_mem hj, ?_⟩
      rw [mirL_get f t z hzp u _ hj]
      show f + ((d * z / z : Nat) : Int) = x
      rw [Nat.mul_div_cancel _ hzp]
      omega
  · subst e
    have e : colsG f (1, (u : Int)) t z = parTo f t u z := by unfold colsG; rw [if_neg Int.one_ne_zero]; simp
    have hu3 : 3 ≤ u := by
      rcases okG_cases hok with ⟨h, _⟩ | ⟨_, h, _⟩
      · omega
      · omega
    rw [e]
    obtain ⟨p1, p2, p3⟩ := par_fits u (by omega) hu3 z (by omega) z1
    rw [← parTo_len0 f t u z] at p1 p2 p3
    refine ⟨?_, by omega, p2⟩
    by_cases hn : (parTo f t u z).length < u
    · rw [if_pos hn, devsS_nodup, List.length_map]
      rw [List.nodup_iff_pairwise_ne, List.pairwise_iff_getElem]
      intro i j hi hj hij
      rw [List.length_map] at hi hj
      rw [List.getElem_map, List.getElem_map]
      obtain ⟨r1, b1, e1⟩ := parTo_get f t u z i hi
      obtain ⟨r2, b2, e2⟩ := parTo_get f t u z j hj
      rw [e1, e2]
      intro ed
      have ed' : f + (((t + i) % u : Nat) : Int) = f + (((t + j) % u : Nat) : Int) := ed
      have e3 : (t + i) % u = (t + j) % u := by omega
      have h2 := Nat.div_add_mod (t + i) u
      have h3 := Nat.div_add_mod (t + j) u
      rw [e3] at h2
      have h4 : u * ((t + j) / u) = u * ((t + i) / u) + (j - i) := by omega
      rcases Nat.lt_or_ge ((t + i) / u) ((t + j) / u) with h5 | h5
      · have h6 : u * ((t + i) / u + 1) ≤ u * ((t + j) / u) := Nat.mul_le_mul_left u h5
        rw [Nat.mul_add, Nat.mul_one] at h6
        omega
      · have h6 : u * ((t + j) / u) ≤ u * ((t + i) / u) := Nat.mul_le_mul_left u h5
        omega
    · rw [if_neg hn]
      refine devsS_run (f := f) fun x => ?_
      rw [List.mem_map]
      constructor
      · rintro ⟨c, hc, rfl⟩
        obtain ⟨i, hi, rfl⟩ := List.getElem_of_mem hc
        have a := hL.dev0
        have b := hL.dev1
        rw [e] at a b
        exact ⟨a i hi, b i hi⟩
      · rintro ⟨ha, hb⟩
        obtain ⟨d, hd⟩ := Int.eq_ofNat_of_zero_le (show 0 ≤ x - f by omega)
        have hdu : d < u := by omega
        have hmt := Nat.mod_lt t (show 0 < u by omega)
        have hjm := Nat.mod_lt (d + (u - t % u)) (show 0 < u by omega)
        have hj : (d + (u - t % u)) % u < (parTo f t u z).length := by omega
        refine ⟨_, List.getElem_mem hj, ?_⟩
        obtain ⟨r1, b1, e1⟩ := parTo_get f t u z _ hj
        rw [e1]
        show f + (((t + (d + (u - t % u)) % u) % u : Nat) : Int) = x
        have e4 : (t + (d + (u - t % u)) % u) % u = d := by
          rw [Nat.add_mod, Nat.mod_mod, ← Nat.add_mod]
          have h2 := Nat.div_add_mod t u
          have e5 : t + (d + (u - t % u)) = d + u * (t / u + 1) := by rw [Nat.mul_add, Nat.mul_one]; omega
          rw [e5, Nat.add_mul_mod_self_left, Nat.mod_eq_of_lt hdu]
        rw [e4]
        omega
theorem Blk.devd {l : List (Int × Int)} {s : Int} {k t z : Nat} (h : Blk l s k t z) {kk : Int} {u : Nat} (hl : l[k]'h.hk = (kk, (u : Int))) : Devd (aheadL l k) kk u z (colsOf l k t z) (devsS ((colsOf l k t z).map C.dev)) := by
  have hk := h.hk
  have hok := h.right.all k hk
  have hf := h.fit
  unfold colsOf
  rw [getD_at hk, hl]
  rw [hl] at hok hf
  exact Proofs.Ytebejoigdofonaa.devd _ _ _ s _ _ hok h.z1 h.z4 hf
end Go.Proofs.Ytebejoigdofonaa
