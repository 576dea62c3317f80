/-
  What le's lay and number do, by walking their text: lay answers the lowest digits, number what digits come to.
-/
import Derived.Test.YthpifplflhhkiaaChecked
import Derived.Test.YthpifplflhhkiaaMath
import Derived.WalkKit
import Derived.ProofKit
import Derived.WalkSpells
import Derived.OwnWalk
import Derived.WalkLawsBesides
import Derived.Handy
import Derived.Laws.BytesString
import Derived.Laws.Cells
import Derived.Laws.BitsAllLaws
import Derived.Lib.Hide
namespace Go.Proofs.Ythpifplflhhkiaa
set_option maxRecDepth 100000
open Go.RowKit M

theorem conv_new (w : World) (ns : List Int) (n : Nat) (hn : ns.length = n) :
    (convert 88 9 (.slice (some ⟨w.heap.size, 0, none⟩) n n)).run Try.prog (w.alloc (.cells (ns.map (Value.int .u8)).toArray 5)) =
      .ok (.string ⟨(ns.map fun n => UInt8.ofNat n.toNat).toArray⟩) (w.alloc (.cells (ns.map (Value.int .u8)).toArray 5)) := by
  subst hn
  rw [run_convert_bytes_string _ _ _ 5 _ _ _ Try.underlying88 Try.underlying5 Try.underlying9]
  have hl : (loadCells ⟨w.heap.size, 0, none⟩ ns.length).run Try.prog (w.alloc (.cells (ns.map (Value.int .u8)).toArray 5)) = .ok (ns.map (Value.int .u8)).toArray (w.alloc (.cells (ns.map (Value.int .u8)).toArray 5)) := by
    have h := run_loadCells_list (P := Try.prog) (w := w.alloc (.cells (ns.map (Value.int .u8)).toArray 5)) ⟨w.heap.size, 0, none⟩ (ns.map (Value.int .u8)) (by
      intro j v hj
      have hk : j < ns.length := by have := (List.getElem?_eq_some_iff.1 hj).1; simpa using this
      rw [show Addr.add ⟨w.heap.size, 0, none⟩ j = ⟨w.heap.size, j, none⟩ by simp [Addr.add]; intro h; subst h; rfl]
      rw [World.cell?_alloc_new]
      simpa using hj)
    simpa using h
  rw [run_bytesToString _ _ _ _ ns hl]
  congr 2
  have hf : ∀ (l : List Int) (r : ByteArray), l.foldl (fun r n => r.push (UInt8.ofNat n.toNat)) r = ⟨(r.data.toList ++ l.map fun n => UInt8.ofNat n.toNat).toArray⟩ := by
    intro l
    induction l with
    | nil => intro r; simp
    | cons a l ih => intro r; rw [List.foldl_cons, ih]; simp [ByteArray.push]
  rw [hf]; simp

theorem lay4 (x : Nat) (w : World) (hx : x < 4294967296) :
    Calls Try.prog 45 #[.int .u64 x, .int .i64 4] w fun e w' => e = .returned (.string ⟨(layL x 4).toArray⟩) ∧ Below w.heap.size w w' := by
  have hmk : ∀ w, (Instr.makeSlice 88 (.int .i64 4) (.int .i64 4)).run Try.prog w = .ok (.slice (some ⟨w.heap.size, 0, none⟩) 4 4) (w.alloc (.cells #[.int .u8 0, .int .u8 0, .int .u8 0, .int .u8 0] 5)) := fun _ => by kernel_rfl
  have hcv : ∀ (w : World) (a b c d : Int), (convert 88 9 (.slice (some ⟨w.heap.size, 0, none⟩) 4 4)).run Try.prog (w.alloc (.cells #[.int .u8 a, .int .u8 b, .int .u8 c, .int .u8 d] 5)) = .ok (.string ⟨#[UInt8.ofNat a.toNat, UInt8.ofNat b.toNat, UInt8.ofNat c.toNat, UInt8.ofNat d.toNat]⟩) (w.alloc (.cells #[.int .u8 a, .int .u8 b, .int .u8 c, .int .u8 d] 5)) :=
    fun w a b c d => conv_new w [a, b, c, d] 4 rfl
  go_enter Try.func45, Try.ntmps45
  go_wp2
  go_rounds 5
  go_ret
  refine ⟨?_, (Below.refl _ _).alloc (Nat.le_refl _) _⟩
  have e4 : x / 16777216 % 256 = x / 16777216 := Nat.mod_eq_of_lt (by omega)
  rw [layL4, e4]
  rfl

theorem lay8 (x : Nat) (w : World) (hx : x < 18446744073709551616) :
    Calls Try.prog 45 #[.int .u64 x, .int .i64 8] w fun e w' => e = .returned (.string ⟨(layL x 8).toArray⟩) ∧ Below w.heap.size w w' := by
  have hmk : ∀ w, (Instr.makeSlice 88 (.int .i64 8) (.int .i64 8)).run Try.prog w = .ok (.slice (some ⟨w.heap.size, 0, none⟩) 8 8) (w.alloc (.cells #[.int .u8 0, .int .u8 0, .int .u8 0, .int .u8 0, .int .u8 0, .int .u8 0, .int .u8 0, .int .u8 0] 5)) := fun _ => by kernel_rfl
  have hcv : ∀ (w : World) (a b c d e f g h : Int), (convert 88 9 (.slice (some ⟨w.heap.size, 0, none⟩) 8 8)).run Try.prog (w.alloc (.cells #[.int .u8 a, .int .u8 b, .int .u8 c, .int .u8 d, .int .u8 e, .int .u8 f, .int .u8 g, .int .u8 h] 5)) = .ok (.string ⟨#[UInt8.ofNat a.toNat, UInt8.ofNat b.toNat, UInt8.ofNat c.toNat, UInt8.ofNat d.toNat, UInt8.ofNat e.toNat, UInt8.ofNat f.toNat, UInt8.ofNat g.toNat, UInt8.ofNat h.toNat]⟩) (w.alloc (.cells #[.int .u8 a, .int .u8 b, .int .u8 c, .int .u8 d, .int .u8 e, .int .u8 f, .int .u8 g, .int .u8 h] 5)) :=
    fun w a b c d e f g h => conv_new w [a, b, c, d, e, f, g, h] 8 rfl
  go_enter Try.func45, Try.ntmps45
  go_wp2
  go_rounds 9
  go_ret
  refine ⟨?_, (Below.refl _ _).alloc (Nat.le_refl _) _⟩
  have e8 : x / 72057594037927936 % 256 = x / 72057594037927936 := Nat.mod_eq_of_lt (by omega)
  rw [layL8, e8]
  rfl

set_option maxHeartbeats 400000 in
theorem number_any (s : ByteArray) (w : World) (hs : s.size ≤ 8) :
    Calls Try.prog 38 #[.string s] w fun e w' => e = .returned (.int .u64 (numL s.data.toList : Nat)) ∧ w = w' := by
  go_enter Try.func38, Try.ntmps38
  go_wp2
  go_loop [3, 7] (fun x i => ∃ k : Nat, k ≤ s.size ∧ i = .int .i64 k ∧ x = .int .u64 (numL (s.data.toList.take k) : Nat)) (fun _ i => s.size - (intOf i).toNat)
  case atStart => exact ⟨0, Nat.zero_le _, rfl, rfl⟩
  case round =>
    obtain ⟨k, hk, rfl, rfl⟩ := hrel
    by_cases hlt : k < s.size
    · have hl : (s.data.toList.take k).length = k := by simp [List.length_take]; omega
      have h8 : numL (s.data.toList.take k) < 18446744073709551616 := numL_lt8 _ (by omega)
      have hd := digit_lt s[k] k (by omega)
      have hc : s[k].toNat < 256 := UInt8.toNat_lt _
      have ho := or_digit (s.data.toList.take k) s[k]
      rw [hl] at ho
      have HS : Hid (bits BinOp.or IntKind.u64 (numL (s.data.toList.take k) : Nat) (IntKind.u64.wrap (IntKind.u64.wrap ↑s[k].toNat * 2 ^ (8 * k))) = ((numL (s.data.toList.take (k + 1)) : Nat) : Int)) := by
        refine Lib.hid ?_
        have e1 : IntKind.u64.wrap (s[k].toNat : Int) = (s[k].toNat : Int) := by rw [IntKind.wrap_u64]; omega
        have e2 : IntKind.u64.wrap ((s[k].toNat : Int) * 2 ^ (8 * k)) = ((s[k].toNat * 2 ^ (8 * k) : Nat) : Int) := by
          have e3 : ((s[k].toNat : Int) * 2 ^ (8 * k)) = ((s[k].toNat * 2 ^ (8 * k) : Nat) : Int) := by push_cast; rfl
          rw [IntKind.wrap_u64, e3]; omega
        rw [e1, e2, u64_or_nat _ _ h8 hd, ho, List.take_succ_eq_append_getElem (by simpa using hlt)]
        rfl
      clear ho hd h8 hl hc
      go_wp2
      go_round
      case rel => exact ⟨k + 1, by omega, by go_num, by rw [HS.out]⟩
      case measure => simp [intOf]; omega
    · go_wp2
      go_ret
      refine ⟨?_, rfl⟩
      rw [List.take_of_length_le (by simp; omega)]; rfl
end Go.Proofs.Ythpifplflhhkiaa
