/-
  ptr.lay, Bytes: what they answer.
-/
import Derived.Test.YthpifplflhhkiaaQb
import Derived.Test.YthpifplflhhkiaaFread
import Derived.Test.YthpifplflhhkiaaRef2
namespace Go.Proofs.Ythpifplflhhkiaa
set_option maxRecDepth 100000
open Go.RowKit M

/-- A small number's four bytes. -/
def u4 (x : Nat) : ByteArray := ⟨(layL x 4).toArray⟩
theorem u4_size (x : Nat) : (u4 x).size = 4 := by
  show (layL x 4).toArray.size = 4
  rw [List.size_toArray, layL_length]
theorem u32_u4 (n : Nat) (w : World) (hn : n < 4294967296) :
    Calls Try.prog 34 #[.int .i64 n] w fun e w' => e = .returned (.string (u4 n)) ∧ Below w.heap.size w w' := u32_any n w hn
theorem refU32_u4 (n : Nat) (w : World) (hn : n < 4294967296) :
    Calls Try.prog 26 #[.int .i64 n] w fun e w' => e = .returned (.string (u4 n)) ∧ Below w.heap.size w w' := refU32_any n w hn

def okN (n : Int) : Bool := decide (0 ≤ n ∧ n ≤ 4294967295)
/-- Numbers' bytes, the first k of them. -/
def catN (zs : List Int) : Nat → ByteArray
  | 0 => ⟨#[]⟩
  | k + 1 => catN zs k ++ u4 (zs.getD k 0).toNat
theorem catN_size (zs : List Int) (k : Nat) : (catN zs k).size = 4 * k := by
  induction k with
  | zero => rfl
  | succ k ih => rw [catN, ByteArray.size_append, u4_size, ih]; omega
theorem catN_succ {zs : List Int} {k : Nat} (hk : k < zs.length) {m : Nat} (h : zs[k] = (m : Int)) : catN zs (k + 1) = catN zs k ++ u4 m := by
  rw [catN, List.getD_eq_getElem?_getD, List.getElem?_eq_getElem hk, Option.getD_some, h]
  simp
def laidS (b : Bool) (zs : List Int) (n : Nat) : ByteArray := if b then catN zs n else ⟨#[]⟩
theorem u4_ne (x : Nat) : ((u4 x).toList == []) = false := by
  have h := u4_size x
  rw [ByteArray.toList_eq]
  have e : (u4 x).data.toList = layL x 4 := rfl
  rw [e, layL4]; rfl

set_option maxHeartbeats 1000000 in
theorem lay_any (zs : List Int) (g n c : Nat) (w : World) (hn : zs.length = n) (n1 : n ≤ 100) (hg : g < w.heap.size) (hc : ∀ i (h : i < zs.length), w.cell? ⟨g, i, none⟩ = some (.int .i64 zs[i])) (hz : ∀ i (h : i < zs.length), I64 zs[i])
    (b : Bool) (hb : zs.all okN = b) :
    Calls Try.prog 19 #[.slice (some ⟨g, 0, none⟩) n c] w fun e w' => e = .returned (.tuple #[.string (laidS b zs n), .bool b]) ∧ Below w.heap.size w w' := by
  have HN := Lib.hid hn
  have HC := Lib.hid hc
  have HZ := Lib.hid hz
  have HB := Lib.hid hb
  clear hn hc hz hb
  go_enter Try.func19, Try.ntmps19
  go_wp2_with fail
  go_loopw [4, 10] (fun t i wr => ∃ (k : Nat) (y : ByteArray), k ≤ n ∧ i = .int .i64 (k : Int) ∧ t = .string y ∧ y.size = 4 * k ∧ Hid (y = catN zs k ∧ ∀ j (h : j < zs.length), j < k → okN zs[j] = true) ∧ Below w.heap.size w wr) (fun _ i _ => n - (intOf i).toNat)
  case atStart => exact ⟨0, ⟨#[]⟩, Nat.zero_le _, rfl, rfl, rfl, Lib.hid ⟨rfl, fun j _ hj => absurd hj (Nat.not_lt_zero _)⟩, Below.refl _ _⟩
  case round =>
    obtain ⟨k, y, hk, rfl, rfl, hys, HY, hbw⟩ := hrel
    have HW := Lib.hid hbw
    by_cases hlt : k < n
    · have hkl : k < zs.length := by rw [HN.out]; exact hlt
      obtain ⟨z, hzk⟩ : ∃ z, zs[k] = z := ⟨_, rfl⟩
      have hcell : wr.cell? ⟨g, k, none⟩ = some (.int .i64 z) := by
        rw [hbw.cell (p := ⟨g, k, none⟩) hg, HC.out k hkl, hzk]
      obtain ⟨z0, z1⟩ : I64 z := by rw [← hzk]; exact HZ.out k hkl
      have HZK := Lib.hid hzk
      clear hbw hzk
      by_cases hok : 0 ≤ z ∧ z ≤ 4294967295
      · obtain ⟨m, rfl⟩ := Int.eq_ofNat_of_zero_le hok.1
        have hm : m < 4294967296 := by omega
        have hne := u4_ne m
        have hus := u4_size m
        clear hok
        go_wp2_with fail
        refine (u32_u4 m _ hm).mono ?_
        rintro e w1 ⟨rfl, b1⟩
        have HW1 := Lib.hid (next HW.out b1)
        have HS := Lib.hid (catN_succ hkl HZK.out)
        clear b1 hcell
        go_wp2
        go_roundw
        case rel =>
          refine ⟨k + 1, y ++ u4 m, by omega, by go_num, rfl, by rw [ByteArray.size_append, hus, hys]; omega, Lib.hid ⟨by rw [HS.out, ← HY.out.1], fun j hj hjk => ?_⟩, HW1.out⟩
          by_cases e : j = k
          · subst e; rw [HZK.out, okN]; exact decide_eq_true ⟨by omega, by omega⟩
          · exact HY.out.2 j hj (by omega)
        case measure => simp [intOf]; omega
      · have hbf : false = b := by
          rw [← HB.out, eq_comm, List.all_eq_false]
          exact ⟨z, by rw [← HZK.out]; exact List.getElem_mem _, by rw [okN, decide_eq_false hok]; simp⟩
        subst hbf
        have hno : z < 0 ∨ 4294967295 < z := by omega
        have HNO := Lib.hid hno
        clear hno hok
        go_wp2_with fail
        refine (u32_none z _ HNO.out).mono ?_
        rintro e w1 ⟨rfl, rfl⟩
        go_wp2
        go_ret2
        exact ⟨rfl, HW.out⟩
    · obtain rfl : k = n := by omega
      have hbt : true = b := by
        rw [← HB.out, eq_comm, List.all_eq_true]
        intro x hx
        obtain ⟨j, hj, rfl⟩ := List.getElem_of_mem hx
        exact HY.out.2 j hj (by rw [← HN.out]; exact hj)
      subst hbt
      clear hbw
      go_wp2
      go_ret2
      exact ⟨by rw [laidS, if_pos rfl, ← HY.out.1]; rfl, HW.out⟩
end Go.Proofs.Ythpifplflhhkiaa
