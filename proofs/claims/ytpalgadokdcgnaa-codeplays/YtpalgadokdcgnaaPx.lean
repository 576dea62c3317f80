/-
  The document's Xor: the parity, byte by byte.
-/
import Derived.Test.YtpalgadokdcgnaaPr
namespace Go.Proofs.Ytpalgadokdcgnaa
set_option maxRecDepth 100000
open Go.RowKit M

theorem xor_i64 (a b : UInt8) : bits BinOp.xor IntKind.i64 (a.toNat : Int) (b.toNat : Int) = ((a ^^^ b).toNat : Int) := by
  have ha := UInt8.toNat_lt a
  have hb := UInt8.toNat_lt b
  have hx := UInt8.toNat_lt (a ^^^ b)
  have h1 : (BitVec.ofInt 64 (a.toNat : Int)).toNat = a.toNat := by rw [BitVec.ofInt_natCast, BitVec.toNat_ofNat]; exact Nat.mod_eq_of_lt (by omega)
  have h2 : (BitVec.ofInt 64 (b.toNat : Int)).toNat = b.toNat := by rw [BitVec.ofInt_natCast, BitVec.toNat_ofNat]; exact Nat.mod_eq_of_lt (by omega)
  show IntKind.i64.wrap ((BitVec.ofInt 64 (a.toNat : Int) ^^^ BitVec.ofInt 64 (b.toNat : Int)).toNat : Int) = _
  rw [BitVec.toNat_xor, h1, h2, ← UInt8.toNat_xor, IntKind.wrap_i64]
  omega
theorem parL_succ (l : List ByteArray) (k : Nat) : parL l (k + 1) = parL l k ++ [colx l k] := by simp [parL, List.range_succ]
theorem colx_snoc (l : List ByteArray) (i k : Nat) (h : i < l.length) : colx (l.take (i + 1)) k = colx (l.take i) k ^^^ (l[i]).data.toList.getD k 0 := by
  rw [List.take_succ_eq_append_getElem h, colx_append, colx_one]
theorem byteD_at (s : ByteArray) (k : Nat) (h : k < s.size) : s.data.toList.getD k 0 = s[k] := by
  rw [List.getD_eq_getElem?_getD, List.getElem?_eq_getElem (by rw [← sizeL]; exact h)]
  rfl
theorem push_list (l : List UInt8) (b : UInt8) : (⟨l.toArray⟩ : ByteArray) ++ ⟨#[b]⟩ = ⟨(l ++ [b]).toArray⟩ := by
  apply extL
  simp
/-- string([]byte{b}). -/
theorem conv_one (w : World) (b : UInt8) : (convert 48 9 (.slice (some ⟨w.heap.size, 0, none⟩) 1 1)).run Try.prog (w.alloc (.cells #[.int .u8 (b.toNat : Int)] 5)) = .ok (.string ⟨#[b]⟩) (w.alloc (.cells #[.int .u8 (b.toNat : Int)] 5)) :=
  conv_from _ w.heap.size [b] ⟨fun j hj => by
    obtain rfl : j = 0 := by simpa using hj
    simp, fun j _ => World.frozen?_alloc_at _ _ _ _ rfl, by simp⟩ 1 1 rfl

set_option maxHeartbeats 2000000 in
theorem refXor_any (l : List ByteArray) (v : Value) (w : World) (h : Txt w v l) (hm : l.length ≤ maxLen) (ho : okL l = true) (hz : ∀ s ∈ l, s.size ≤ 4000) :
    Calls Try.prog 37 #[v] w fun e w' => e = .returned (.string (parB l)) ∧ Below w.heap.size w w' := by
  have hl : 0 < l.length := List.length_pos_iff.2 (ok_iff.1 ho).1
  obtain ⟨g, o, c, rfl, hcc, hg, hc⟩ := h.isSome hl
  unfold maxLen at hm
  have hc0 := hc 0 hl
  rw [Nat.add_zero] at hc0
  have hw := wide_at0 hl
  have hs0m := hz _ (List.getElem_mem hl)
  generalize hs0 : l[0] = s0 at hc0 hw hs0m
  clear hs0
  have HE := Lib.hid (ok_size ho)
  have HC := Lib.hid hc
  have HW := Lib.hid hw
  clear hc hw h hz ho
  generalize hn : l.length = n at hl hm hcc
  have HN := Lib.hid hn
  clear hn
  have hcv := conv_one
  go_enter Try.func37, Try.ntmps37
  go_wp2_with fail
  go_loopw [3, 4] (fun x i wx => ∃ k : Nat, k ≤ s0.size ∧ i = .int .i64 k ∧ x = .string ⟨(parL l k).toArray⟩ ∧ Below w.heap.size w wx) (fun _ i _ => s0.size - (intOf i).toNat)
  case atStart => exact ⟨0, Nat.zero_le _, rfl, rfl, Below.refl _ _⟩
  case round =>
    obtain ⟨k, hk, rfl, rfl, hb⟩ := hrel
    have hc0r : wr.cell? ⟨g, o, none⟩ = some (.string s0) := by rw [hb.cell (p := ⟨g, o, none⟩) hg]; exact hc0
    have hlen : (⟨(parL l k).toArray⟩ : ByteArray).size = k := by rw [sizeL]; simp [parL_length]
    by_cases hlt : k < s0.size
    · go_wp2_with fail
      go_loop [5, 6] (fun x i => ∃ (j : Nat) (b : UInt8), j ≤ n ∧ i = .int .i64 j ∧ x = .int .i64 (b.toNat : Int) ∧ Hid (b = colx (l.take j) k)) (fun _ i => n - (intOf i).toNat)
      case atStart => exact ⟨0, 0, Nat.zero_le _, rfl, rfl, Lib.hid (by simp [colx_nil])⟩
      case round =>
        obtain ⟨j, b, hj, rfl, rfl, HB⟩ := hrel
        by_cases hjn : j < n
        · have hjl : j < l.length := by rw [HN.out]; exact hjn
          have hcj : wr.cell? ⟨g, o + j, none⟩ = some (.string l[j]) := by rw [hb.cell (p := ⟨g, o + j, none⟩) hg]; exact HC.out j hjl
          have hsz : l[j].size = s0.size := (HE.out _ (List.getElem_mem hjl)).trans HW.out.symm
          have hsn := colx_snoc l j k hjl
          rw [← HB.out] at hsn
          generalize l[j] = s at hcj hsz hsn
          have hks : k < s.size := by rw [hsz]; exact hlt
          rw [byteD_at s k hks] at hsn
          have hx := xor_i64 b s[k]
          rw [← hsn] at hx
          generalize hB2 : colx (l.take (j + 1)) k = b2 at hx
          have HB2 := Lib.hid hB2.symm
          clear hsn hB2 HB hjl
          have hsl := UInt8.toNat_lt s[k]
          go_wp2
          go_round
          case rel => exact ⟨j + 1, b2, by omega, by go_num, rfl, HB2⟩
          case measure => simp [intOf]; omega
        · obtain rfl : j = n := by omega
          have hcb : colx l k = b := by rw [HB.out, List.take_of_length_le (by rw [HN.out]; exact Nat.le_refl _)]
          have HCB := Lib.hid hcb
          have hwb : IntKind.u8.wrap (b.toNat : Int) = (b.toNat : Int) := by have := UInt8.toNat_lt b; rw [IntKind.wrap_u8']; omega
          have hcvb := hcv wr b
          clear hcb
          go_wp2
          refine ⟨⟨k + 1, by omega, by go_num, ?_, hb.alloc hb.size _⟩, by simp [intOf]; omega⟩
          rw [push_list, parL_succ, HCB.out]
    · obtain rfl : k = s0.size := by omega
      have hp : (⟨(parL l s0.size).toArray⟩ : ByteArray) = parB l := by rw [parB, ← HW.out]
      have HP := Lib.hid hp
      clear hp hlen
      go_wp2
      go_ret
      exact ⟨by rw [← HP.out]; rfl, hb⟩
end Go.Proofs.Ytpalgadokdcgnaa
