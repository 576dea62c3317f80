/-
  New devices: none fails.
-/
import Derived.Test.YtlhnmcopioeboaaMg
namespace Go.Proofs.Ytlhnmcopioeboaa
set_option maxRecDepth 100000
open Go.RowKit Go.Maps M

theorem dsTo_none (fl : Nat → Bool) (D : Dv) (n : Nat) : dsTo 0 fl D n = fun _ => D := by funext i; simp [dsTo, saysB]
theorem awTo_none (fa : Nat → Bool) (n : Nat) : awTo 0 fa n = fun _ => false := by funext i; simp [awTo, saysB]
theorem zeroDv_here (sc : Int) (d : Nat) : hereB (fun _ => zeroDv sc) (fun _ => false) d = true := rfl
/-- All devices are new: none fails. -/
theorem failN_new (sc : Int) (L : List C) : failN (fun _ => zeroDv sc) (fun _ => false) L = 0 := by
  unfold failN
  rw [faTo_all _ fun j _ => zeroDv_here sc _]
  rfl
theorem errN_zero {x : Int × Int} (h : okG x = true) : errN x 0 = 0 := by
  unfold errN spareN
  have := okG_wide h
  split
  · rw [if_neg (by omega)]
  · rw [if_neg (by decide)]
theorem zeroDv_len {sc : Int} (h : 24 ≤ sc) : ((zeroDv sc).med.length : Int) = sc := by
  show ((List.replicate (newDv sc.toNat).med.length (fullS 0)).length : Int) = sc
  rw [List.length_replicate]
  show ((List.replicate sc.toNat (fullS 0)).length : Int) = sc
  rw [List.length_replicate]
  omega
end Go.Proofs.Ytlhnmcopioeboaa
