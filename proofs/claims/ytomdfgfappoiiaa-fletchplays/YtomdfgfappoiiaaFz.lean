/-
  Zero bytes made, their words; a sum's bytes tell it, and are read as it.
-/
import Derived.Test.YtomdfgfappoiiaaFread
import Derived.Test.YtomdfgfappoiiaaFm2
import Derived.Deep.OwnRows
namespace Go.Proofs.Ytomdfgfappoiiaa
open Go.RowKit M

theorem layL_take (a b : List UInt8) (n : Nat) (h : a.length = n) : (a ++ b).take n = a := by rw [List.take_append_of_le_length (by omega), List.take_of_length_le (by omega)]
theorem layL_drop (a b : List UInt8) (n : Nat) (h : a.length = n) : (a ++ b).drop n = b := by rw [List.drop_append_of_le_length (by omega), List.drop_of_length_le (by omega), List.nil_append]
/-- What is laid is read as it was. -/
theorem readQ_bytes (q : Q) (s : ByteArray) (hq : q.Ok) : readQ (bytesQ q ++ s) = q := by
  have e : (bytesQ q ++ s).data.toList = layL q.a 8 ++ (layL q.b 8 ++ (layL q.c 8 ++ (layL q.d 8 ++ s.data.toList))) := by
    rw [append_data, bytesQ_list]; simp only [List.append_assoc]
  have l8 := fun x => layL_length 8 x
  have n8 : ∀ x, x < 18446744073709551616 → numL (layL x 8) = x := fun x hx => by rw [numL_layL]; exact Nat.mod_eq_of_lt hx
  have d8 : ∀ (x : Nat) (b : List UInt8), (layL x 8 ++ b).drop 8 = b := fun x b => layL_drop _ _ _ (l8 x)
  have t8 : ∀ (x : Nat) (b : List UInt8), (layL x 8 ++ b).take 8 = layL x 8 := fun x b => layL_take _ _ _ (l8 x)
  have d16 : ∀ l : List UInt8, l.drop 16 = (l.drop 8).drop 8 := fun l => by rw [List.drop_drop]
  have d24 : ∀ l : List UInt8, l.drop 24 = ((l.drop 8).drop 8).drop 8 := fun l => by rw [List.drop_drop, List.drop_drop]
  unfold readQ
  rw [e, d16, d24, t8, d8, d8, d8, t8, t8, t8, n8 _ hq.a, n8 _ hq.b, n8 _ hq.c, n8 _ hq.d]
theorem bytesQ_inj {p q : Q} (hp : p.Ok) (hq : q.Ok) (h : bytesQ p = bytesQ q) : p = q := by
  have e1 := readQ_bytes p ⟨#[]⟩ hp
  rw [h, readQ_bytes q ⟨#[]⟩ hq] at e1
  exact e1.symm
theorem numL_zeros : ∀ l : List UInt8, (∀ x ∈ l, x = 0) → numL l = 0
  | [], _ => rfl
  | c :: r, h => by
    rw [numL, h c (by simp), numL_zeros r (fun x hx => h x (by simp [hx]))]
    rfl
/-- Zero bytes. -/
def zeroB (m : Nat) : ByteArray := ⟨((List.replicate m (0 : Int)).map fun n => UInt8.ofNat n.toNat).toArray⟩
theorem zeroB_list (m : Nat) : (zeroB m).data.toList = List.replicate m 0 := by
  show (List.replicate m (0 : Int)).map _ = _
  rw [List.map_replicate]; rfl
theorem zeroB_size (m : Nat) : (zeroB m).size = m := by rw [size_list, zeroB_list, List.length_replicate]
theorem wordsL_zeros (m : Nat) : ∀ x ∈ wordsL (List.replicate m 0), x = 0 := by
  intro x hx
  obtain ⟨k, _, rfl⟩ := List.mem_map.1 hx
  exact numL_zeros _ (fun y hy => List.eq_of_mem_replicate (List.mem_of_mem_drop (List.mem_of_mem_take hy)))
theorem sumQ_zeros : ∀ ws : List Nat, (∀ x ∈ ws, x = 0) → sumQ zeroQ ws = zeroQ
  | [], _ => rfl
  | x :: ws, h => by
    have e : sumQ zeroQ (x :: ws) = sumQ (stepQ zeroQ x) ws := rfl
    rw [e, h x (by simp), show stepQ zeroQ 0 = zeroQ from rfl]
    exact sumQ_zeros ws (fun y hy => h y (by simp [hy]))
/-- Zero words ahead of a text change nothing. -/
theorem sum_zeros (k : Nat) (s : ByteArray) : sumQ zeroQ (wordsB (zeroB (4 * k) ++ s)) = sumQ zeroQ (wordsB s) := by
  have h4 : (zeroB (4 * k)).size % 4 = 0 := by rw [zeroB_size]; omega
  rw [wordsB_append _ _ h4, sumQ_append]
  have : wordsB (zeroB (4 * k)) = wordsL (List.replicate (4 * k) 0) := by rw [wordsB, pad4_same _ h4, zeroB_list]
  rw [this, sumQ_zeros _ (wordsL_zeros _)]
theorem byte_info : (Try.prog.info? 5).map (fun i => (i.zero, i.size, i.bytes)) = some (some (.int .u8 0), 1, 1) := by kernel_rfl
theorem made_zeros (m : Nat) : madeCells #[.int .u8 0] m = ((List.replicate m (0 : Int)).map (Value.int .u8)).toArray := by
  apply Array.ext'
  rw [toList_madeCells_one]
  simp
theorem make_zeros (m : Nat) (hm : m ≤ 1000000) (w : World) :
    (Instr.makeSlice 25 (.int .i64 (m : Int)) (.int .i64 (m : Int))).run Try.prog w = .ok (.slice (some ⟨w.heap.size, 0, none⟩) m m) (w.alloc (.cells ((List.replicate m (0 : Int)).map (Value.int .u8)).toArray 5)) := by
  rw [← made_zeros]
  exact run_make_row' 25 5 (.int .u8 0) 1 Try.underlying25 byte_info rfl .i64 .i64 m (by omega) (by omega) w
theorem conv_zeros (m : Nat) (w : World) :
    (convert 25 9 (.slice (some ⟨w.heap.size, 0, none⟩) m m)).run Try.prog (w.alloc (.cells ((List.replicate m (0 : Int)).map (Value.int .u8)).toArray 5)) =
      .ok (.string (zeroB m)) (w.alloc (.cells ((List.replicate m (0 : Int)).map (Value.int .u8)).toArray 5)) :=
  conv_new w (List.replicate m 0) m (by simp)
end Go.Proofs.Ytomdfgfappoiiaa
