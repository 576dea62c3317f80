/-
  par.mix, par.Make: what they answer.
-/
import Derived.Test.YtckfhphobjjojaaPf
import Derived.StillTailTactics
namespace Go.Proofs.Ytckfhphobjjojaa
open Go.RowKit M

/-- The first k bytes made one with another text's. -/
def mixTo (p : List UInt8) (s : ByteArray) (k : Nat) : List UInt8 := List.zipWith (· ^^^ ·) (p.take k) (s.data.toList.take k) ++ p.drop k
theorem mixTo_zero (p : List UInt8) (s : ByteArray) : mixTo p s 0 = p := by simp [mixTo]
theorem mixTo_all (p : List UInt8) (s : ByteArray) (h : p.length = s.size) : mixTo p s p.length = List.zipWith (· ^^^ ·) p s.data.toList := by
  rw [mixTo, List.take_length, List.drop_length, List.append_nil, List.take_of_length_le (by rw [← sizeL]; omega)]
theorem mixTo_length (p : List UInt8) (s : ByteArray) (h : p.length = s.size) (k : Nat) : (mixTo p s k).length = p.length := by
  rw [sizeL] at h
  simp [mixTo] at h ⊢
  omega
theorem mixTo_at (p : List UInt8) (s : ByteArray) (h : p.length = s.size) (k : Nat) (hk : k < p.length) (h' : k < (mixTo p s k).length) : (mixTo p s k)[k] = p[k] := by
  have hs : s.data.toList.length = p.length := by rw [← sizeL]; exact h.symm
  simp only [mixTo]
  rw [List.getElem_append_right (by simp [hs]; omega)]
  simp only [List.length_zipWith, List.length_take, hs, List.getElem_drop]
  congr 1
  omega
theorem mixTo_next (p : List UInt8) (s : ByteArray) (h : p.length = s.size) (k : Nat) (hk : k < p.length) (hs : k < s.size) : (mixTo p s k).set k (p[k] ^^^ s[k]) = mixTo p s (k + 1) := by
  have hl : s.data.toList.length = p.length := by rw [← sizeL]; exact h.symm
  have hz : (List.zipWith (· ^^^ ·) (p.take k) (s.data.toList.take k)).length = k := by simp [hl]; omega
  unfold mixTo
  rw [List.set_append, if_neg (by omega), hz, Nat.sub_self, List.drop_eq_getElem_cons hk, List.set_cons_zero, List.take_succ_eq_append_getElem hk,
    List.take_succ_eq_append_getElem (l := s.data.toList) (by omega), List.zipWith_append (by simp [hl]), List.append_assoc]
  rfl
theorem xor_bits (a b : UInt8) : bits BinOp.xor IntKind.u8 (a.toNat : Int) (b.toNat : Int) = ((a ^^^ b).toNat : Int) := by
  rw [u8_xor_nat _ _ (UInt8.toNat_lt a) (UInt8.toNat_lt b), UInt8.toNat_xor]

set_option maxHeartbeats 1000000 in
theorem mix_any (p : List UInt8) (s : ByteArray) (g c n : Nat) (w : World) (B : Nat) (h : RowB w g p) (hB : B ≤ g) (hp : p.length = s.size) (hm : s.size ≤ maxLen) (hn : s.size = n) :
    Calls Try.prog 19 #[.slice (some ⟨g, 0, none⟩) n c, .string s] w fun e w' => e = .returned (.tuple #[]) ∧ RowB w' g (List.zipWith (· ^^^ ·) p s.data.toList) ∧ Below B w w' := by
  unfold maxLen at hm
  subst hn
  have HP := Lib.hid hp
  have HR := Lib.hid h
  clear h hp
  go_enter Try.func19, Try.ntmps19
  go_wp2_with fail
  go_loopw [7] (fun i wx => ∃ k : Nat, k ≤ s.size ∧ i = .int .i64 k ∧ RowB wx g (mixTo p s k) ∧ Below B w wx) (fun i _ => s.size - (intOf i).toNat)
  case atStart => exact ⟨0, Nat.zero_le _, rfl, by rw [mixTo_zero]; exact HR.out, Below.refl _ _⟩
  case round =>
    obtain ⟨k, hk, rfl, hr, hb⟩ := hrel
    by_cases hlt : k < s.size
    · have hlp : k < p.length := by rw [HP.out]; exact hlt
      have hml : k < (mixTo p s k).length := by rw [mixTo_length p s HP.out]; exact hlp
      have hck := hr.c k hml
      rw [mixTo_at p s HP.out k hlp hml] at hck
      have hfk := hr.f k hml
      have hx := xor_bits p[k] s[k]
      have hnx := RowB.set hr k hml (p[k] ^^^ s[k])
      rw [mixTo_next p s HP.out k hlp hlt] at hnx
      have HX := Lib.hid hnx
      generalize p[k] ^^^ s[k] = v at hx hnx HX
      generalize p[k] = u at hck hx
      clear hr hnx hlp hml
      have a1 : ((k : Int)).toNat = k := by omega
      go_wp2_with fail
      refine wp_region_still_tail 9 (by kernel_rfl) (by kernel_rfl) ?_
      simp only [List.take_succ_cons, List.take_zero, List.drop_succ_cons, List.drop_zero]
      repeat still_step
      refine wpStill_nil ?_
      go_wp2
      go_round
      case rel => exact ⟨k + 1, by omega, by go_num, HX.out.below (Below.refl _ _).drew HX.out.lt, (hb.setCell (p := ⟨g, k, none⟩) hB _).drew⟩
      case measure => simp [intOf]; omega
    · go_wp2
      go_end0
      obtain rfl : k = s.size := by omega
      refine ⟨rfl, ?_, hb⟩
      rw [← HP.out, mixTo_all p s HP.out] at hr
      exact hr

theorem ok_even {l : List ByteArray} (hl : 0 < l.length) : okL l = evenL l := by
  cases l with
  | nil => exact absurd hl (Nat.not_lt_zero _)
  | cons s r => simp [okL]

theorem even_cons {s0 : ByteArray} {r : List ByteArray} (he : ∀ s ∈ r, s.size = s0.size) : evenL (s0 :: r) = true := even_of (n := s0.size) fun s hs => by
  rcases List.mem_cons.1 hs with rfl | hs
  · rfl
  · exact he s hs

set_option maxHeartbeats 1000000 in
theorem make_ok (s0 : ByteArray) (r : List ByteArray) (g o c n : Nat) (w : World) (hn : (s0 :: r).length = n) (hcc : n ≤ c) (hg : g < w.heap.size) (hm : n ≤ maxLen) (hz : s0.size ≤ maxLen) (he : ∀ s ∈ r, s.size = s0.size)
    (hc : ∀ j (h : j < (s0 :: r).length), w.cell? ⟨g, o + j, none⟩ = some (.string (s0 :: r)[j])) :
    Calls Try.prog 10 #[.slice (some ⟨g, o, none⟩) n c] w fun e w' => e = .returned (.tuple #[.string (parB (s0 :: r)), .int .i64 0]) ∧ Below w.heap.size w w' := by
  have HT : Hid (Txt w (.slice (some ⟨g, o, none⟩) n c) (s0 :: r)) := Lib.hid (by subst hn; exact Txt.mk hcc hg hc)
  have HM : Hid ((s0 :: r).length ≤ maxLen) := Lib.hid (by rw [hn]; exact hm)
  have HE := Lib.hid he
  have HN : Hid (n = r.length + 1) := Lib.hid (by rw [← hn]; rfl)
  have hn1 : 1 ≤ n := by have := HN.out; omega
  have hn0 : ((n : Int) == 0) = false := by rw [beq_eq_false_iff_ne]; omega
  have HC := Lib.hid hc
  have HZ := Lib.hid hz
  unfold maxLen at hm
  clear he hn hc hz
  go_enter Try.func10, Try.ntmps10
  go_wp2_with fail
  refine (even_any _ _ _ HT.out HM.out true (even_cons HE.out)).mono ?_
  rintro e w1 ⟨rfl, b1⟩
  have HC1 : Hid (∀ j (h : j < (s0 :: r).length), w1.cell? ⟨g, o + j, none⟩ = some (.string (s0 :: r)[j])) := Lib.hid fun j hj => by
    rw [b1.cell (p := ⟨g, o + j, none⟩) hg]; exact HC.out j hj
  have hc0 : w1.cell? ⟨g, o, none⟩ = some (.string s0) := HC1.out 0 (by simp)
  have hcv := conv_to w1 s0
  have HR0 := Lib.hid (bytesW_row w1 s0)
  have hb0 := bytesW_below w1 s0
  have hg1 : g < w1.heap.size := Nat.lt_of_lt_of_le hg b1.size
  have hB1 : w.heap.size ≤ w1.heap.size := b1.size
  have hbb := early2 b1 hb0
  clear HC HT
  generalize hgx : grownCap w1 s0.size 0 5 = gc at hcv
  generalize hwx : bytesW w1 s0 = wx at hcv HR0 hb0 hbb
  clear hgx hwx
  by_cases hc1 : c = 1
  · obtain rfl : n = 1 := by omega
    subst hc1
    obtain rfl : r = [] := List.eq_nil_of_length_eq_zero (by have := HN.out; omega)
    have hcf := conv_from wx w1.heap.size _ HR0.out s0.size gc (sizeL s0)
    rw [show (⟨s0.data.toList.toArray⟩ : ByteArray) = s0 from by cases s0; rfl] at hcf
    go_wp2_with fail
    refine wp_loop_rounds 1 ?_
    rw [rounds_succ]
    go_wp2
    go_ret2
    exact ⟨by rw [par_single]; rfl, hbb⟩
  · go_wp2_with fail
    go_loopw [22] (fun i wr => ∃ k : Nat, k ≤ n - 1 ∧ i = .int .i64 k ∧ RowB wr w1.heap.size (parL ((s0 :: r).take (k + 1)) s0.size) ∧ Below w1.heap.size w1 wr) (fun i _ => n - 1 - (intOf i).toNat)
    case atStart =>
      refine ⟨0, Nat.zero_le _, rfl, ?_, hb0⟩
      rw [List.take_succ_cons, List.take_zero, parL_first]
      exact HR0.out
    case round =>
      obtain ⟨k, hk, rfl, hr, hb⟩ := hrel
      by_cases hlt : k < n - 1
      · have hkl : k < r.length := by have := HN.out; omega
        have hck : wr.cell? ⟨g, o + 1 + k, none⟩ = some (.string r[k]) := by
          rw [hb.cell (p := ⟨g, o + 1 + k, none⟩) hg1]
          have := HC1.out (k + 1) (by simp; omega)
          rw [show o + 1 + k = o + (k + 1) by omega]
          simpa using this
        have hsz := HE.out _ (List.getElem_mem hkl)
        have hmo := parL_more ((s0 :: r).take (k + 1)) r[k]
        rw [show (s0 :: r).take (k + 1) ++ [r[k]] = (s0 :: r).take (k + 1 + 1) by
          rw [List.take_succ_cons, List.take_succ_cons, List.cons_append, List.take_succ_eq_append_getElem hkl]] at hmo
        generalize r[k] = sk at hck hsz hmo
        have HS := Lib.hid hsz
        rw [hsz] at hmo
        have HMO := Lib.hid hmo
        have HR := Lib.hid hr
        clear hsz hmo hr
        go_wp2_with fail
        refine (mix_any _ sk w1.heap.size gc s0.size _ w1.heap.size HR.out (Nat.le_refl _) (by rw [parL_length, HS.out]) (by rw [HS.out]; exact HZ.out) HS.out).mono ?_
        rintro e w2 ⟨rfl, h2, b2⟩
        rw [HMO.out] at h2
        go_wp2
        go_round
        case rel => exact ⟨k + 1, by omega, by go_num, h2, hb.trans b2⟩
        case measure => simp [intOf]; omega
      · obtain rfl : k = n - 1 := by omega
        have hcf := conv_from wr w1.heap.size _ hr s0.size gc (by rw [parL_length])
        rw [List.take_of_length_le (by rw [List.length_cons]; have := HN.out; omega)] at hcf
        go_wp2
        go_ret2
        exact ⟨rfl, early2 b1 hb⟩
theorem make_any (l : List ByteArray) (v : Value) (w : World) (h : Txt w v l) (hm : l.length ≤ maxLen) (hz : ∀ s ∈ l, s.size ≤ maxLen) :
    Calls Try.prog 10 #[v] w fun e w' => e = .returned (.tuple #[.string (mkB l), .int .i64 (mkE l)]) ∧ Below w.heap.size w w' := by
  cases l with
  | nil =>
    obtain ⟨a, c, rfl⟩ := h.isNone
    obtain ⟨h1, h2⟩ := mk_no (l := []) rfl
    rw [h1, h2]
    clear h hm hz h1 h2
    go_enter Try.func10, Try.ntmps10
    go_wp2
    go_ret2
    exact ⟨rfl, Below.refl _ _⟩
  | cons s0 r =>
    have hev := ok_even (l := s0 :: r) (by simp)
    cases hb : evenL (s0 :: r) with
    | false =>
      obtain ⟨h1, h2⟩ := mk_no (hev.trans hb)
      rw [h1, h2]
      have HB := Lib.hid hb
      have HT := Lib.hid h
      have HM := Lib.hid hm
      obtain ⟨g, o, c, rfl, hcc, hg, hc⟩ := h.isSome (by simp)
      unfold maxLen at hm
      have hn1 : 1 ≤ (s0 :: r).length := by simp
      generalize hn : (s0 :: r).length = n at hn1 hm hcc HT
      clear hb h hev h1 h2 hc hz hn
      go_enter Try.func10, Try.ntmps10
      go_wp2_with fail
      refine (even_any _ _ _ HT.out HM.out false HB.out).mono ?_
      rintro e w1 ⟨rfl, b1⟩
      go_wp2
      go_ret2
      exact ⟨rfl, b1⟩
    | true =>
      obtain ⟨h1, h2⟩ := mk_ok (hev.trans hb)
      rw [h1, h2]
      obtain ⟨g, o, c, rfl, hcc, hg, hc⟩ := h.isSome (by simp)
      exact make_ok s0 r g o c _ w rfl hcc hg hm (hz s0 (List.mem_cons_self ..)) (fun s hs => even_iff.1 hb s (List.mem_cons_of_mem _ hs)) hc
end Go.Proofs.Ytckfhphobjjojaa
