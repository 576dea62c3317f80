/-
  Plain facts: what is laid is read as it was, and nothing else is read (no call is walked here).
-/
import Derived.Test.YthpifplflhhkiaaQl
import Derived.Test.YthpifplflhhkiaaQh
namespace Go.Proofs.Ythpifplflhhkiaa
set_option maxRecDepth 100000
open Go.RowKit M

theorem layL_take (a b : List UInt8) (n : Nat) (h : a.length = n) : (a ++ b).take n = a := by rw [List.take_append_of_le_length (by omega), List.take_of_length_le (by omega)]
theorem layL_drop (a b : List UInt8) (n : Nat) (h : a.length = n) : (a ++ b).drop n = b := by rw [List.drop_append_of_le_length (by omega), List.drop_of_length_le (by omega), List.nil_append]
/-- What is laid is read as it was. -/
theorem readQ_bytes (q : Q) (s : ByteArray) (hq : q.Ok) : readQ (bytesQ q ++ s) = q := by
  have e : (bytesQ q ++ s).data.toList = layL q.a 8 ++ (layL q.b 8 ++ (layL q.c 8 ++ (layL q.d 8 ++ s.data.toList))) := by
    rw [append_data, bytesQ_list]; simp only [List.append_assoc]
  have l8 := fun x => layL_length 8 x
  have n8 : ∀ x, x < 18446744073709551616 → numL (layL x 8) = x := fun x hx => by rw [numL_layL]; exact Nat.mod_eq_of_lt hx
  have d8 : ∀ (x : Nat) (b : List UInt8), (layL x 8 ++ b).drop 8 = b := fun x b => layL_drop _ _ _ (l8 x)
  have t8 : ∀ (x : Nat) (b : List UInt8), (layL x 8 ++ b).take 8 = layL x 8 := fun x b => layL_take _ _ _ (l8 x)
  have d16 : ∀ l : List UInt8, l.drop 16 = (l.drop 8).drop 8 := fun l => by rw [List.drop_drop]
  have d24 : ∀ l : List UInt8, l.drop 24 = ((l.drop 8).drop 8).drop 8 := fun l => by rw [List.drop_drop, List.drop_drop]
  unfold readQ
  rw [e, d16, d24, t8, d8, d8, d8, t8, t8, t8, n8 _ hq.a, n8 _ hq.b, n8 _ hq.c, n8 _ hq.d]
theorem bytesQ_inj {p q : Q} (hp : p.Ok) (hq : q.Ok) (h : bytesQ p = bytesQ q) : p = q := by
  have e1 := readQ_bytes p ⟨#[]⟩ hp
  rw [h, readQ_bytes q ⟨#[]⟩ hq] at e1
  exact e1.symm
theorem four_eights (l : List UInt8) (h : 32 ≤ l.length) :
    layL (numL (l.take 8)) 8 ++ layL (numL ((l.drop 8).take 8)) 8 ++ layL (numL ((l.drop 16).take 8)) 8 ++ layL (numL ((l.drop 24).take 8)) 8 = l.take 32 := by
  have lay : ∀ m : List UInt8, m.length = 8 → layL (numL m) 8 = m := fun m h8 => by have := layL_numL m; rw [h8] at this; exact this
  rw [lay _ (by rw [List.length_take]; omega), lay _ (by rw [List.length_take, List.length_drop]; omega), lay _ (by rw [List.length_take, List.length_drop]; omega), lay _ (by rw [List.length_take, List.length_drop]; omega)]
  rw [show (32 : Nat) = 24 + 8 from rfl, List.take_add (i := 24), show (24 : Nat) = 16 + 8 from rfl, List.take_add (i := 16), show (16 : Nat) = 8 + 8 from rfl, List.take_add (i := 8)]
/-- A sum that was read has the bytes that it was read from. -/
theorem bytesQ_read (s : ByteArray) (h : 32 ≤ s.size) : bytesQ (readQ s) = s.extract 0 32 := by
  apply ext_list
  have hh := headB_list s 32
  unfold headB at hh
  rw [hh, bytesQ_list]
  exact four_eights _ (by rw [← size_list]; exact h)
theorem readQ_ok (s : ByteArray) : (readQ s).Ok :=
  ⟨numL_lt8 _ (List.length_take_le _ _), numL_lt8 _ (List.length_take_le _ _), numL_lt8 _ (List.length_take_le _ _), numL_lt8 _ (List.length_take_le _ _)⟩

theorem num4_lay (x : Nat) (hx : x < 4294967296) : numL (layL x 4) = x := by rw [numL_layL]; exact Nat.mod_eq_of_lt (by simpa using hx)
theorem lay4_num (l : List UInt8) (h : l.length = 4) : layL (numL l) 4 = l := by have := layL_numL l; rwa [h] at this
/-- The numbers of a pointer that can be laid. -/
theorem mayP_nats {x : Ptr} (h : mayP x = true) : ∃ n0 n1 n2 n3 m n5 : Nat, x.ag = n0 ∧ x.aa = n1 ∧ x.bg = n2 ∧ x.ba = n3 ∧ oneP x = m ∧ x.bi = n5 ∧ n0 < 4294967296 ∧ n1 < 4294967296 ∧ n2 < 4294967296 ∧ n3 < 4294967296 ∧ m < 131072 ∧ n5 < 4294967296 ∧ 0 ≤ x.sz ∧ x.sz ≤ 255 ∧ 0 ≤ x.lv ∧ x.lv ≤ 255 := by
  unfold mayP at h
  rw [Bool.and_eq_true, decide_eq_true_eq] at h
  obtain ⟨hr, h⟩ := h
  unfold numsP at h
  simp only [List.all_cons, List.all_nil, Bool.and_true, Bool.and_eq_true, okN, decide_eq_true_eq] at h
  obtain ⟨g0, g1, g2, g3, g4, g5⟩ := h
  have ho : oneP x ≤ 131071 := by unfold oneP; split <;> omega
  exact ⟨x.ag.toNat, x.aa.toNat, x.bg.toNat, x.ba.toNat, (oneP x).toNat, x.bi.toNat, by omega, by omega, by omega, by omega, by omega, by omega, by omega, by omega, by omega, by omega, by omega, by omega, by omega, by omega, by omega, by omega⟩
theorem bytesP_parts {x : Ptr} {n0 n1 n2 n3 m n5 : Nat} (h0 : x.ag = n0) (h1 : x.aa = n1) (h2 : x.bg = n2) (h3 : x.ba = n3) (h4 : oneP x = m) (h5 : x.bi = n5) :
    (bytesP x).data.toList = layL n0 4 ++ (layL n1 4 ++ (layL n2 4 ++ (layL n3 4 ++ (layL m 4 ++ (layL n5 4 ++ ((bytesQ x.q).data.toList ++ List.replicate 8 0)))))) := by
  rw [bytesP_list, catN_list, catN_list, catN_list, catN_list, catN_list, catN_list, catN_list0]
  simp [numsP, h0, h1, h2, h3, h4, h5]
theorem drop4 {a r : List UInt8} (h : a.length = 4) (k : Nat) : (a ++ r).drop (4 + k) = r.drop k := by rw [← List.drop_drop, layL_drop _ _ _ h]
theorem append_zeros {s : ByteArray} {z : List UInt8} {t : ByteArray} (h : s.data.toList = t.data.toList ++ z) : s = t ++ ⟨z.toArray⟩ := ext_list (by rw [h, append_data])

/-- What is laid is read as it was. -/
theorem read_bytes {x : Ptr} (hx : x.Ok) (h : mayP x = true) : readE (bytesP x) = 0 ∧ readV (bytesP x) = x := by
  obtain ⟨n0, n1, n2, n3, m, n5, h0, h1, h2, h3, h4, h5, l0, l1, l2, l3, lm, l5, z0, z1, v0, v1⟩ := mayP_nats h
  have hL := bytesP_parts h0 h1 h2 h3 h4 h5
  have l4 := fun x => layL_length 4 x
  have e0 : numS (bytesP x) 0 = n0 := by rw [numS, hL, show 4 * 0 = 0 from rfl, List.drop_zero, layL_take _ _ _ (l4 _), num4_lay _ l0]
  have e1 : numS (bytesP x) 1 = n1 := by rw [numS, hL, show 4 * 1 = 4 + 0 from rfl, drop4 (l4 _), List.drop_zero, layL_take _ _ _ (l4 _), num4_lay _ l1]
  have e2 : numS (bytesP x) 2 = n2 := by rw [numS, hL, show 4 * 2 = 4 + (4 + 0) from rfl, drop4 (l4 _), drop4 (l4 _), List.drop_zero, layL_take _ _ _ (l4 _), num4_lay _ l2]
  have e3 : numS (bytesP x) 3 = n3 := by rw [numS, hL, show 4 * 3 = 4 + (4 + (4 + 0)) from rfl, drop4 (l4 _), drop4 (l4 _), drop4 (l4 _), List.drop_zero, layL_take _ _ _ (l4 _), num4_lay _ l3]
  have e4 : numS (bytesP x) 4 = m := by rw [numS, hL, show 4 * 4 = 4 + (4 + (4 + (4 + 0))) from rfl, drop4 (l4 _), drop4 (l4 _), drop4 (l4 _), drop4 (l4 _), List.drop_zero, layL_take _ _ _ (l4 _), num4_lay _ (by omega)]
  have e5 : numS (bytesP x) 5 = n5 := by rw [numS, hL, show 4 * 5 = 4 + (4 + (4 + (4 + (4 + 0)))) from rfl, drop4 (l4 _), drop4 (l4 _), drop4 (l4 _), drop4 (l4 _), drop4 (l4 _), List.drop_zero, layL_take _ _ _ (l4 _), num4_lay _ l5]
  have d24 : (tailB (bytesP x) 24).data.toList = (bytesQ x.q).data.toList ++ List.replicate 8 0 := by
    rw [tailB_list, hL, show 24 = 4 + (4 + (4 + (4 + (4 + (4 + 0))))) from rfl, drop4 (l4 _), drop4 (l4 _), drop4 (l4 _), drop4 (l4 _), drop4 (l4 _), drop4 (l4 _), List.drop_zero]
  have eq : readQ (tailB (bytesP x) 24) = x.q := by rw [append_zeros d24]; exact readQ_bytes _ _ hx.q
  have d56 : zerosB (tailB (bytesP x) 56) = true := by
    have e : (tailB (bytesP x) 56).data.toList = List.replicate 8 0 := by
      have : tailB (bytesP x) 56 = tailB (tailB (bytesP x) 24) 32 := ext_list (by rw [tailB_list, tailB_list, tailB_list, List.drop_drop])
      rw [this, tailB_list, d24, layL_drop _ _ _ (by rw [← size_list]; exact bytesQ_size _)]
    rw [zerosB, e]; decide
  have hE : readE (bytesP x) = 0 := by
    rw [readE, bytesP_size, if_neg (by decide), if_neg (by decide), if_pos ⟨d56, by rw [e4]; exact lm⟩]
  refine ⟨hE, ?_⟩
  rw [readV, if_pos hE, readP, e0, e1, e2, e3, e4, e5, eq]
  unfold oneP at h4
  refine Ptr.ext' h0.symm h1.symm h2.symm h3.symm ?_ ?_ ?_ h5.symm rfl
  · show decide (65536 ≤ (m : Int)) = x.two
    cases ht : x.two
    · rw [ht] at h4; simp at h4; exact decide_eq_false (by omega)
    · rw [ht] at h4; simp at h4; exact decide_eq_true (by omega)
  · show (m : Int) % 256 = x.sz
    split at h4 <;> omega
  · show (m : Int) % 65536 / 256 = x.lv
    split at h4 <;> omega

theorem readE_zero {s : ByteArray} (h : readE s = 0) : s.size = 64 ∧ zerosB (tailB s 56) = true ∧ numS s 4 < 131072 := by
  unfold readE at h
  split at h
  · cases h
  · split at h
    · cases h
    · split at h
      · rename_i h1 h2 h3
        exact ⟨by omega, h3⟩
      · cases h
theorem readV_some {s : ByteArray} (h : readE s = 0) : readV s = readP s := by rw [readV, if_pos h]
theorem readV_none {s : ByteArray} (h : ¬ readE s = 0) : readV s = noP := by rw [readV, if_neg h]
theorem readP_ok (s : ByteArray) : (readP s).Ok := by
  have h0 := numS_lt s 0
  have h1 := numS_lt s 1
  have h2 := numS_lt s 2
  have h3 := numS_lt s 3
  have h4 := numS_lt s 4
  have h5 := numS_lt s 5
  have i : ∀ n : Nat, n < 4294967296 → I64 (n : Int) := fun n h => ⟨by omega, by omega⟩
  refine ⟨i _ h0, i _ h1, i _ h2, i _ h3, ?_, ?_, i _ h5, readQ_ok _⟩
  · show I64 ((numS s 4 : Int) % 256)
    exact ⟨by omega, by omega⟩
  · show I64 ((numS s 4 : Int) % 65536 / 256)
    exact ⟨by omega, by omega⟩
theorem all_zeros : ∀ (l : List UInt8), l.all (· == 0) = true → l = List.replicate l.length 0
  | [], _ => rfl
  | c :: r, h => by
    rw [List.all_cons, Bool.and_eq_true, beq_iff_eq] at h
    rw [List.length_cons, List.replicate_succ, ← all_zeros r h.2, h.1]
theorem readP_one {s : ByteArray} (h : numS s 4 < 131072) : oneP (readP s) = (numS s 4 : Int) := by
  unfold oneP readP
  dsimp only
  by_cases hc : 65536 ≤ (numS s 4 : Int)
  · rw [decide_eq_true hc, if_pos rfl]; omega
  · rw [decide_eq_false hc, if_neg (by decide)]; omega
/-- Nothing else is read. -/
theorem bytes_read {s : ByteArray} (h : readE s = 0) : mayP (readP s) = true ∧ bytesP (readP s) = s := by
  obtain ⟨hs, hz, hm⟩ := readE_zero h
  have ho := readP_one hm
  have hlen : s.data.toList.length = 64 := by rw [← size_list]; exact hs
  constructor
  · unfold mayP numsP
    rw [ho]
    rw [Bool.and_eq_true, decide_eq_true_eq]
    have h0 := numS_lt s 0
    have h1 := numS_lt s 1
    have h2 := numS_lt s 2
    have h3 := numS_lt s 3
    have h5 := numS_lt s 5
    refine ⟨⟨by simp [readP]; omega, by simp [readP]; omega, by simp [readP]; omega, by simp [readP]; omega⟩, ?_⟩
    simp only [List.all_cons, List.all_nil, Bool.and_true, Bool.and_eq_true, okN, decide_eq_true_eq, readP]
    exact ⟨by omega, by omega, by omega, by omega, by omega, by omega⟩
  · apply ext_list
    rw [bytesP_parts (x := readP s) (n0 := numS s 0) (n1 := numS s 1) (n2 := numS s 2) (n3 := numS s 3) (m := numS s 4) (n5 := numS s 5) rfl rfl rfl rfl ho rfl]
    have c : ∀ i, i < 6 → layL (numS s i) 4 = (s.data.toList.drop (4 * i)).take 4 := fun i hi => lay4_num _ (by rw [List.length_take, List.length_drop]; omega)
    have hq : (bytesQ (readQ (tailB s 24))).data.toList = (s.data.toList.drop 24).take 32 := by
      rw [bytesQ_read _ (by rw [tailB_size]; omega)]
      have := headB_list (tailB s 24) 32
      unfold headB at this
      rw [this, tailB_list]
    have hr : List.replicate 8 (0 : UInt8) = s.data.toList.drop 56 := by
      have := all_zeros (tailB s 56).data.toList hz
      rw [tailB_list, List.length_drop, hlen] at this
      exact this.symm
    rw [c 0 (by omega), c 1 (by omega), c 2 (by omega), c 3 (by omega), c 4 (by omega), c 5 (by omega), show (readP s).q = readQ (tailB s 24) from rfl, hq, hr]
    have g : ∀ (l : List UInt8) (i k j : Nat), i + k = j → (l.drop i).take k ++ l.drop j = l.drop i := fun l i k j e => by
      subst e; rw [← List.drop_drop, List.take_append_drop]
    rw [g _ 24 32 56 rfl, g _ (4 * 5) 4 24 rfl, g _ (4 * 4) 4 (4 * 5) rfl, g _ (4 * 3) 4 (4 * 4) rfl, g _ (4 * 2) 4 (4 * 3) rfl, g _ (4 * 1) 4 (4 * 2) rfl, g _ (4 * 0) 4 (4 * 1) rfl]
    rfl
/-- Unlike pointers have unlike bytes. -/
theorem bytesP_inj {x y : Ptr} (hx : x.Ok) (hy : y.Ok) (mx : mayP x = true) (my : mayP y = true) (h : bytesP x = bytesP y) : x = y := by
  rw [← (read_bytes hx mx).2, ← (read_bytes hy my).2, h]
end Go.Proofs.Ythpifplflhhkiaa
