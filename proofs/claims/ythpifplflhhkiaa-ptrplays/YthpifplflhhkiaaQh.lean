/-
  The document's example (awake).
-/
import Derived.Test.YthpifplflhhkiaaQg
namespace Go.Proofs.Ythpifplflhhkiaa
set_option maxRecDepth 100000
open Go.RowKit M

theorem u4_list (x : Nat) : (u4 x).data.toList = layL x 4 := rfl
theorem catN_list (zs : List Int) (k : Nat) : (catN zs (k + 1)).data.toList = (catN zs k).data.toList ++ layL (zs.getD k 0).toNat 4 := by
  rw [catN, append_data, u4_list]
theorem catN_list0 (zs : List Int) : (catN zs 0).data.toList = [] := rfl
theorem bytesP_list (x : Ptr) : (bytesP x).data.toList = ((catN (numsP x) 6).data.toList ++ (bytesQ x.q).data.toList) ++ List.replicate 8 0 := by
  rw [bytesP, padK_list, append_data, raw_size]; rfl
theorem none_bytes : zerosB (bytesP noP) = true := by
  rw [zerosB, bytesP_list, bytesQ_list, catN_list, catN_list, catN_list, catN_list, catN_list, catN_list, catN_list0]
  decide
theorem awake9_any (w : World) : Calls Try.prog 7 #[] w fun e w' => e = .returned (.bool true) ∧ Below w.heap.size w w' := by
  have HB := Lib.hid (bytes9_any noP noP_ok w true (by decide))
  simp only [Ptr.val, Ptr.cells] at HB
  have hs : (bytesB true noP).size = 64 := bytesP_size noP
  have HZ := Lib.hid (show zerosB (bytesB true noP) = true from none_bytes)
  generalize bytesB true noP = y at HB hs HZ
  go_enter Try.func7, Try.ntmps7
  go_wp2_with fail
  refine HB.out.mono ?_
  rintro e w1 ⟨rfl, b1⟩
  have HW := Lib.hid b1
  clear b1 HB
  go_wp2_with fail
  refine (refZeros_any y _ (by rw [hs]; decide)).mono ?_
  rw [HZ.out]
  rintro e w2 ⟨rfl, rfl⟩
  go_wp2
  go_ret
  exact ⟨rfl, HW.out⟩
end Go.Proofs.Ythpifplflhhkiaa
