/-
  The document's answers on what can be laid, and on a pointer's bytes (polderref09.May, Bytes).
-/
import Derived.Test.YthpifplflhhkiaaQg
import Derived.Test.YthpifplflhhkiaaFrb
import Derived.Test.YthpifplflhhkiaaCx
namespace Go.Proofs.Ythpifplflhhkiaa
set_option maxRecDepth 100000
open Go.RowKit M

theorem five_new (U : World) (m : Nat) (hm : U.heap.size = m) (a b c d e : Int) (ty : TypeId) : ∀ i (h : i < [a, b, c, d, e].length), (U.alloc (.cells #[.int .i64 a, .int .i64 b, .int .i64 c, .int .i64 d, .int .i64 e] ty)).cell? ⟨m, i, none⟩ = some (.int .i64 [a, b, c, d, e][i]) := by
  subst hm
  intro i h
  match i, h with
  | 0, _ => simp
  | 1, _ => simp
  | 2, _ => simp
  | 3, _ => simp
  | 4, _ => simp
theorem one_ok {x : Ptr} (h : 0 ≤ x.sz ∧ x.sz ≤ 255 ∧ 0 ≤ x.lv ∧ x.lv ≤ 255) : 0 ≤ oneP x ∧ oneP x ≤ 131071 := by
  unfold oneP; split <;> omega
theorem mayP_iff {x : Ptr} : mayP x = true ↔ (0 ≤ x.sz ∧ x.sz ≤ 255 ∧ 0 ≤ x.lv ∧ x.lv ≤ 255) ∧ ∀ i (h : i < [x.ag, x.aa, x.bg, x.ba, x.bi].length), okN [x.ag, x.aa, x.bg, x.ba, x.bi][i] = true := by
  unfold mayP numsP
  rw [Bool.and_eq_true, decide_eq_true_eq]
  constructor
  · rintro ⟨h1, h2⟩
    refine ⟨h1, ?_⟩
    simp only [List.all_cons, List.all_nil, Bool.and_true, Bool.and_eq_true] at h2
    obtain ⟨g0, g1, g2, g3, g4, g5⟩ := h2
    intro i h
    match i, h with
    | 0, _ => exact g0
    | 1, _ => exact g1
    | 2, _ => exact g2
    | 3, _ => exact g3
    | 4, _ => exact g5
  · rintro ⟨h1, h2⟩
    refine ⟨h1, ?_⟩
    have ho : okN (oneP x) = true := by rw [okN, decide_eq_true_eq]; have := one_ok h1; omega
    simp only [List.all_cons, List.all_nil, Bool.and_true, Bool.and_eq_true]
    exact ⟨h2 0 (by simp), h2 1 (by simp), h2 2 (by simp), h2 3 (by simp), ho, h2 4 (by simp)⟩

set_option maxHeartbeats 1000000 in
theorem refMay_any (x : Ptr) (hx : x.Ok) (w : World) (b : Bool) (hb : mayP x = b) :
    Calls Try.prog 12 #[x.val] w fun e w' => e = .returned (.bool b) ∧ Below w.heap.size w w' := by
  have K := Lib.hid ((Box.new w x).next (boxed _ (.cells #[.int .i64 x.ag, .int .i64 x.aa, .int .i64 x.bg, .int .i64 x.ba, .int .i64 x.bi] 3)))
  have HB := Lib.hid hb
  clear hb
  unfold Ptr.cells at K
  simp only [Ptr.val, Ptr.cells]
  obtain ⟨⟨ag0, ag1⟩, ⟨aa0, aa1⟩, ⟨bg0, bg1⟩, ⟨ba0, ba1⟩, ⟨sz0, sz1⟩, ⟨lv0, lv1⟩, ⟨bi0, bi1⟩, hq⟩ := hx
  have HZ : Hid (∀ i (h : i < [x.ag, x.aa, x.bg, x.ba, x.bi].length), I64 [x.ag, x.aa, x.bg, x.ba, x.bi][i]) := Lib.hid (by
    intro i h
    match i, h with
    | 0, _ => exact ⟨ag0, ag1⟩
    | 1, _ => exact ⟨aa0, aa1⟩
    | 2, _ => exact ⟨bg0, bg1⟩
    | 3, _ => exact ⟨ba0, ba1⟩
    | 4, _ => exact ⟨bi0, bi1⟩)
  have HC := Lib.hid (five_new (w.alloc (.cells #[.int .i64 x.ag, .int .i64 x.aa, .int .i64 x.bg, .int .i64 x.ba, .bool x.two, .int .i64 x.sz, .int .i64 x.lv, .int .i64 x.bi, .int .u64 x.q.a, .int .u64 x.q.b, .int .u64 x.q.c, .int .u64 x.q.d] 28)) (w.heap.size + 1) (by simp) x.ag x.aa x.bg x.ba x.bi 3)
  have HW := Lib.hid (boxed2 w (.cells #[.int .i64 x.ag, .int .i64 x.aa, .int .i64 x.bg, .int .i64 x.ba, .bool x.two, .int .i64 x.sz, .int .i64 x.lv, .int .i64 x.bi, .int .u64 x.q.a, .int .u64 x.q.b, .int .u64 x.q.c, .int .u64 x.q.d] 28) (.cells #[.int .i64 x.ag, .int .i64 x.aa, .int .i64 x.bg, .int .i64 x.ba, .int .i64 x.bi] 3))
  clear ag0 ag1 aa0 aa1 bg0 bg1 ba0 ba1 bi0 bi1 hq
  go_enter Try.func12, Try.ntmps12
  go_wp2_with fail
  generalize hzs : [x.ag, x.aa, x.bg, x.ba, x.bi] = zs at HC HZ
  have HZS := Lib.hid hzs
  have hlen : Hid (zs.length = 5) := Lib.hid (by rw [← hzs]; rfl)
  clear hzs
  generalize (w.alloc _).alloc _ = W at HC HW K ⊢
  go_loop [4] (fun i => ∃ k : Nat, k ≤ 5 ∧ i = .int .i64 (k : Int) ∧ Hid (∀ j (h : j < zs.length), j < k → okN zs[j] = true)) (fun i => 5 - (intOf i).toNat)
  case atStart => exact ⟨0, Nat.zero_le _, rfl, Lib.hid fun j _ hj => absurd hj (Nat.not_lt_zero _)⟩
  case round =>
    obtain ⟨k, hk, rfl, HY⟩ := hrel
    by_cases hlt : k < 5
    · have hkl : k < zs.length := by rw [hlen.out]; exact hlt
      obtain ⟨z, hzk⟩ : ∃ z, zs[k] = z := ⟨_, rfl⟩
      have hcell : W.cell? ⟨w.heap.size + 1, k, none⟩ = some (.int .i64 z) := by rw [HC.out k hkl, hzk]
      obtain ⟨z0, z1⟩ : I64 z := by rw [← hzk]; exact HZ.out k hkl
      have HZK := Lib.hid hzk
      clear hzk
      by_cases h0 : z < 0
      · have hf : b = false := by
          rw [← HB.out, ← Bool.not_eq_true, mayP_iff, HZS.out]
          intro h
          have := h.2 k hkl
          rw [HZK.out, okN, decide_eq_true_eq] at this
          omega
        subst hf
        go_wp2
        go_ret
        exact ⟨rfl, HW.out⟩
      · by_cases h1 : 4294967295 < z
        · have hf : b = false := by
            rw [← HB.out, ← Bool.not_eq_true, mayP_iff, HZS.out]
            intro h
            have := h.2 k hkl
            rw [HZK.out, okN, decide_eq_true_eq] at this
            omega
          subst hf
          go_wp2
          go_ret
          exact ⟨rfl, HW.out⟩
        · go_wp2
          go_round
          case rel =>
            refine ⟨k + 1, by omega, by go_num, Lib.hid fun j hj hjk => ?_⟩
            by_cases e : j = k
            · subst e; rw [HZK.out, okN]; exact decide_eq_true ⟨by omega, by omega⟩
            · exact HY.out j hj (by omega)
          case measure => simp [intOf]; omega
    · obtain rfl : k = 5 := by omega
      have HALL : Hid (∀ j (h : j < zs.length), okN zs[j] = true) := Lib.hid fun j hj => HY.out j hj (by rw [hlen.out] at hj; exact hj)
      obtain ⟨c0, c1, c2, c3, c4, c5, c6, c7, c8, c9, c10, c11, hlt⟩ := id K.out
      clear c0 c1 c2 c3 c4 c7 c8 c9 c10 c11
      by_cases hr : 0 ≤ x.sz ∧ x.sz ≤ 255 ∧ 0 ≤ x.lv ∧ x.lv ≤ 255
      · have ht : b = true := by rw [← HB.out, mayP_iff, HZS.out]; exact ⟨hr, HALL.out⟩
        obtain ⟨r0, r1, r2, r3⟩ := hr
        subst ht
        go_wp2
        go_ret
        exact ⟨rfl, HW.out⟩
      · have hf : b = false := by rw [← HB.out, ← Bool.not_eq_true, mayP_iff]; exact fun h => hr h.1
        subst hf
        by_cases hl : x.lv ≤ 255
        · go_wp2
          all_goals (go_ret; exact ⟨rfl, HW.out⟩)
        · have hd : decide (x.lv ≤ 255) = false := decide_eq_false hl
          go_wp2
          all_goals (go_ret; exact ⟨rfl, HW.out⟩)
theorem refPad_pos (s : ByteArray) (k : Nat) (w : World) (hs : s.size ≤ 1099511627776) (h1 : 1 ≤ k) (h2 : k ≤ 4096) :
    Calls Try.prog 27 #[.string s, .int .i64 k] w fun e w' => e = .returned (.string (padK s k)) ∧ w = w' := refPad_any s k w hs h1 h2
theorem catN_six {x : Ptr} {n0 n1 n2 n3 m n5 : Nat} (h0 : x.ag = n0) (h1 : x.aa = n1) (h2 : x.bg = n2) (h3 : x.ba = n3) (h4 : oneP x = m) (h5 : x.bi = n5) : catN (numsP x) 6 = u4 n0 ++ u4 n1 ++ u4 n2 ++ u4 n3 ++ u4 m ++ u4 n5 := by
  have e : catN (numsP x) 1 = u4 n0 := by
    rw [catN, numsP, h0]
    exact ext_list (by rw [append_data]; rfl)
  rw [catN, catN, catN, catN, catN, e]
  simp [numsP, h1, h2, h3, h4, h5]

set_option maxHeartbeats 2000000 in
theorem refBytes9_any (x : Ptr) (hx : x.Ok) (w : World) (hm : mayP x = true) :
    Calls Try.prog 13 #[x.val] w fun e w' => e = .returned (.string (bytesP x)) ∧ Below w.heap.size w w' := by
  have K := Lib.hid (Box.new w x)
  obtain ⟨hr, hall⟩ := mayP_iff.1 hm
  have h1 := one_ok hr
  have HO := Lib.hid hr
  obtain ⟨r0, r1, r2, r3⟩ := hr
  have ok : ∀ {z : Int}, okN z = true → ∃ n : Nat, z = n ∧ n < 4294967296 := fun {z} h => by
    rw [okN, decide_eq_true_eq] at h
    exact ⟨z.toNat, by omega, by omega⟩
  obtain ⟨n0, e0, l0⟩ := ok (hall 0 (by simp))
  obtain ⟨n1, e1, l1⟩ := ok (hall 1 (by simp))
  obtain ⟨n2, e2, l2⟩ := ok (hall 2 (by simp))
  obtain ⟨n3, e3, l3⟩ := ok (hall 3 (by simp))
  obtain ⟨n5, e5, l5⟩ := ok (hall 4 (by simp))
  obtain ⟨m, em⟩ := Int.eq_ofNat_of_zero_le h1.1
  have lm : m < 4294967296 := by omega
  simp only [List.getElem_cons_zero, List.getElem_cons_succ] at e0 e1 e2 e3 e5
  have HQ := Lib.hid hx.q
  have HE := Lib.hid (catN_six e0 e1 e2 e3 em e5)
  have HM := Lib.hid em
  have G := Lib.hid (⟨e0, e1, e2, e3, e5⟩ : x.ag = (n0 : Int) ∧ x.aa = (n1 : Int) ∧ x.bg = (n2 : Int) ∧ x.ba = (n3 : Int) ∧ x.bi = (n5 : Int))
  clear hx hm hall h1 ok em
  unfold Ptr.cells at K
  simp only [Ptr.val, Ptr.cells]
  rw [e0, e1, e2, e3, e5] at K ⊢
  clear e0 e1 e2 e3 e5
  have s0 := u4_size n0
  have s1 := u4_size n1
  have s2 := u4_size n2
  have s3 := u4_size n3
  have s4 := u4_size m
  have s5 := u4_size n5
  have main : ∀ two : Bool, x.two = two → Calls Try.prog 13 #[.agg #[.int .i64 (n0 : Int), .int .i64 (n1 : Int), .int .i64 (n2 : Int), .int .i64 (n3 : Int), .bool two, .int .i64 x.sz, .int .i64 x.lv, .int .i64 (n5 : Int), .int .u64 x.q.a, .int .u64 x.q.b, .int .u64 x.q.c, .int .u64 x.q.d]] w fun e w' => e = .returned (.string (bytesP x)) ∧ Below w.heap.size w w' := by
    intro two ht
    rw [ht] at K
    have HW := Lib.hid (boxed w (.cells #[.int .i64 (n0 : Int), .int .i64 (n1 : Int), .int .i64 (n2 : Int), .int .i64 (n3 : Int), .bool two, .int .i64 x.sz, .int .i64 x.lv, .int .i64 (n5 : Int), .int .u64 x.q.a, .int .u64 x.q.b, .int .u64 x.q.c, .int .u64 x.q.d] 28))
    have hHone : (if two = true then x.sz + 256 * x.lv + 65536 else x.sz + 256 * x.lv) = (m : Int) := by rw [← HM.out, oneP, ht]
    have HONE := Lib.hid hHone
    clear hHone
    go_enter Try.func13, Try.ntmps13
    cases two with
    | true =>
      rw [if_pos rfl] at HONE
      go_wp2_with fail
      rw [HONE.out]
      obtain ⟨W, hW⟩ : ∃ W, W = w.alloc (.cells #[.int .i64 (n0 : Int), .int .i64 (n1 : Int), .int .i64 (n2 : Int), .int .i64 (n3 : Int), .bool true, .int .i64 x.sz, .int .i64 x.lv, .int .i64 (n5 : Int), .int .u64 x.q.a, .int .u64 x.q.b, .int .u64 x.q.c, .int .u64 x.q.d] 28) := ⟨_, rfl⟩
      rw [← hW] at K HW ⊢
      clear hW
      obtain ⟨c0, c1, c2, c3, c4, c5, c6, c7, c8, c9, c10, c11, hlt⟩ := id K.out
      have HC : Hid (∀ (y : Nat) (z : Ext W), y < 4294967296 → Calls Try.prog 26 #[.int .i64 (y : Int)] z.v fun e w' => e = .returned (.string (u4 y)) ∧ ∃ q : Ext W, w' = q.v) :=
        Lib.hid (fun y z hy => (refU32_u4 y z.v hy).mono fun e w' ⟨he, hb⟩ => ⟨he, ⟨w', next z.h hb⟩, rfl⟩)
      obtain ⟨g0, g1, g2, g3, g5⟩ := id G.out
      rw [g0] at c0
      rw [g1] at c1
      rw [g2] at c2
      rw [g3] at c3
      rw [g5] at c7
      have f0 := fun y : Ext W => y.cell c0 hlt
      have f1 := fun y : Ext W => y.cell c1 hlt
      have f2 := fun y : Ext W => y.cell c2 hlt
      have f3 := fun y : Ext W => y.cell c3 hlt
      have f7 := fun y : Ext W => y.cell c7 hlt
      clear c0 c1 c2 c3 c4 c5 c6 c7 c8 c9 c10 c11 hlt g0 g1 g2 g3 g5
      haveI hne : Nonempty (Ext W) := Ext.some W
      refine wp_region_family (Ext.v (W := W)) (by kernel_rfl) (by kernel_rfl) ⟨⟨_, (Below.refl _ W).drew⟩, rfl⟩ ?_
      repeat (go_big_quiet_step (first
        | (go_at_call_of 26 (Value.int IntKind.i64 (n0 : Int)); exact HC.out _ _ l0)
        | (go_at_call_of 26 (Value.int IntKind.i64 (n1 : Int)); exact HC.out _ _ l1)
        | (go_at_call_of 26 (Value.int IntKind.i64 (n2 : Int)); exact HC.out _ _ l2)
        | (go_at_call_of 26 (Value.int IntKind.i64 (n3 : Int)); exact HC.out _ _ l3)
        | (go_at_call_of 26 (Value.int IntKind.i64 (m : Int)); exact HC.out _ _ lm)
        | (go_at_call_of 26 (Value.int IntKind.i64 (n5 : Int)); exact HC.out _ _ l5)))
      refine wpQuiet_nil ?_
      rintro w7 ⟨⟨w8, h8⟩, rfl⟩
      have K2 := Lib.hid (K.out.next h8)
      have HW2 := Lib.hid (next HW.out h8)
      clear hne f0 f1 f2 f3 f7 h8 K HW HC
      obtain ⟨_, _, _, _, _, _, _, _, c8, c9, c10, c11, _⟩ := id K2.out
      have hzs := bytesQ_size x.q
      have HCB := Lib.hid (refBytes_any x.q w7 HQ.out)
      have HF : Hid (bytesP x = padK (u4 n0 ++ u4 n1 ++ u4 n2 ++ u4 n3 ++ u4 m ++ u4 n5 ++ bytesQ x.q) 64) := Lib.hid (by rw [bytesP, HE.out])
      have hy6 : (u4 n0 ++ u4 n1 ++ u4 n2 ++ u4 n3 ++ u4 m ++ u4 n5).size = 24 := by simp only [ByteArray.size_append, s0, s1, s2, s3, s4, s5]
      generalize u4 n0 ++ u4 n1 ++ u4 n2 ++ u4 n3 ++ u4 m ++ u4 n5 = y at HF hy6 ⊢
      generalize bytesQ x.q = z at hzs HF HCB
      have hys : y.size = 24 := hy6
      clear hy6
      have hyz : (y ++ z).size = 56 := by rw [ByteArray.size_append, hys, hzs]
      go_wp2_with fail
      refine HCB.out.mono ?_
      rintro e w2 ⟨rfl, b2⟩
      have HW3 := Lib.hid (next HW2.out b2)
      clear b2 c8 c9 c10 c11 HCB
      go_wp2_with fail
      refine (refPad_pos (y ++ z) 64 _ (by omega) (by omega) (by omega)).mono ?_
      rintro e w3 ⟨rfl, rfl⟩
      rw [← HF.out]
      go_wp2
      go_ret
      exact ⟨rfl, HW3.out⟩
    | false =>
      rw [if_neg (by decide)] at HONE
      go_wp2_with fail
      rw [HONE.out]
      obtain ⟨W, hW⟩ : ∃ W, W = w.alloc (.cells #[.int .i64 (n0 : Int), .int .i64 (n1 : Int), .int .i64 (n2 : Int), .int .i64 (n3 : Int), .bool false, .int .i64 x.sz, .int .i64 x.lv, .int .i64 (n5 : Int), .int .u64 x.q.a, .int .u64 x.q.b, .int .u64 x.q.c, .int .u64 x.q.d] 28) := ⟨_, rfl⟩
      rw [← hW] at K HW ⊢
      clear hW
      obtain ⟨c0, c1, c2, c3, c4, c5, c6, c7, c8, c9, c10, c11, hlt⟩ := id K.out
      have HC : Hid (∀ (y : Nat) (z : Ext W), y < 4294967296 → Calls Try.prog 26 #[.int .i64 (y : Int)] z.v fun e w' => e = .returned (.string (u4 y)) ∧ ∃ q : Ext W, w' = q.v) :=
        Lib.hid (fun y z hy => (refU32_u4 y z.v hy).mono fun e w' ⟨he, hb⟩ => ⟨he, ⟨w', next z.h hb⟩, rfl⟩)
      obtain ⟨g0, g1, g2, g3, g5⟩ := id G.out
      rw [g0] at c0
      rw [g1] at c1
      rw [g2] at c2
      rw [g3] at c3
      rw [g5] at c7
      have f0 := fun y : Ext W => y.cell c0 hlt
      have f1 := fun y : Ext W => y.cell c1 hlt
      have f2 := fun y : Ext W => y.cell c2 hlt
      have f3 := fun y : Ext W => y.cell c3 hlt
      have f7 := fun y : Ext W => y.cell c7 hlt
      clear c0 c1 c2 c3 c4 c5 c6 c7 c8 c9 c10 c11 hlt g0 g1 g2 g3 g5
      haveI hne : Nonempty (Ext W) := Ext.some W
      refine wp_region_family (Ext.v (W := W)) (by kernel_rfl) (by kernel_rfl) ⟨⟨_, (Below.refl _ W).drew⟩, rfl⟩ ?_
      repeat (go_big_quiet_step (first
        | (go_at_call_of 26 (Value.int IntKind.i64 (n0 : Int)); exact HC.out _ _ l0)
        | (go_at_call_of 26 (Value.int IntKind.i64 (n1 : Int)); exact HC.out _ _ l1)
        | (go_at_call_of 26 (Value.int IntKind.i64 (n2 : Int)); exact HC.out _ _ l2)
        | (go_at_call_of 26 (Value.int IntKind.i64 (n3 : Int)); exact HC.out _ _ l3)
        | (go_at_call_of 26 (Value.int IntKind.i64 (m : Int)); exact HC.out _ _ lm)
        | (go_at_call_of 26 (Value.int IntKind.i64 (n5 : Int)); exact HC.out _ _ l5)))
      refine wpQuiet_nil ?_
      rintro w7 ⟨⟨w8, h8⟩, rfl⟩
      have K2 := Lib.hid (K.out.next h8)
      have HW2 := Lib.hid (next HW.out h8)
      clear hne f0 f1 f2 f3 f7 h8 K HW HC
      obtain ⟨_, _, _, _, _, _, _, _, c8, c9, c10, c11, _⟩ := id K2.out
      have hzs := bytesQ_size x.q
      have HCB := Lib.hid (refBytes_any x.q w7 HQ.out)
      have HF : Hid (bytesP x = padK (u4 n0 ++ u4 n1 ++ u4 n2 ++ u4 n3 ++ u4 m ++ u4 n5 ++ bytesQ x.q) 64) := Lib.hid (by rw [bytesP, HE.out])
      have hy6 : (u4 n0 ++ u4 n1 ++ u4 n2 ++ u4 n3 ++ u4 m ++ u4 n5).size = 24 := by simp only [ByteArray.size_append, s0, s1, s2, s3, s4, s5]
      generalize u4 n0 ++ u4 n1 ++ u4 n2 ++ u4 n3 ++ u4 m ++ u4 n5 = y at HF hy6 ⊢
      generalize bytesQ x.q = z at hzs HF HCB
      have hys : y.size = 24 := hy6
      clear hy6
      have hyz : (y ++ z).size = 56 := by rw [ByteArray.size_append, hys, hzs]
      go_wp2_with fail
      refine HCB.out.mono ?_
      rintro e w2 ⟨rfl, b2⟩
      have HW3 := Lib.hid (next HW2.out b2)
      clear b2 c8 c9 c10 c11 HCB
      go_wp2_with fail
      refine (refPad_pos (y ++ z) 64 _ (by omega) (by omega) (by omega)).mono ?_
      rintro e w3 ⟨rfl, rfl⟩
      rw [← HF.out]
      go_wp2
      go_ret
      exact ⟨rfl, HW3.out⟩
  exact main x.two rfl
end Go.Proofs.Ythpifplflhhkiaa
