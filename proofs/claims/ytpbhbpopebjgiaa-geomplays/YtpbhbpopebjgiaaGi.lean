/-
  geom.Bytes: what it answers.
-/
import Derived.Test.YtpbhbpopebjgiaaGh
import Derived.Test.YtpbhbpopebjgiaaReg
import Derived.Test.YtpbhbpopebjgiaaRef
namespace Go.Proofs.Ytpbhbpopebjgiaa
open Go.RowKit M

/-- A small number's four bytes. -/
def u4 (x : Nat) : ByteArray := ⟨(layL x 4).toArray⟩
theorem u4_size (x : Nat) : (u4 x).size = 4 := by
  show (layL x 4).toArray.size = 4
  rw [List.size_toArray, layL_length]
theorem u32_u4 (n : Nat) (w : World) (hn : n < 4294967296) :
    Calls Try.prog 25 #[.int .i64 n] w fun e w' => e = .returned (.string (u4 n)) ∧ Below w.heap.size w w' := by
  go_enter Try.func25, Try.ntmps25
  go_wp2_with fail
  refine (lay4 n _ hn).mono ?_
  rintro e w' ⟨rfl, hb⟩
  go_wp2
  go_ret
  exact ⟨rfl, hb⟩
theorem refU32_u4 (n : Nat) (w : World) (hn : n < 4294967296) :
    Calls Try.prog 26 #[.int .i64 n] w fun e w' => e = .returned (.string (u4 n)) ∧ Below w.heap.size w w' := refU32_any n w hn

/-- A group's bytes; a measure's, up to its k-th group. -/
def grpY (x : Int × Int) : ByteArray := u4 x.1.toNat ++ u4 x.2.toNat
def bytesY (l : List (Int × Int)) (s : Int) : Nat → ByteArray
  | 0 => u4 l.length ++ u4 s.toNat
  | k + 1 => bytesY l s k ++ grpY (l.getD k (0, 0))
theorem bytesY_size (l : List (Int × Int)) (s : Int) (k : Nat) : (bytesY l s k).size = 8 + 8 * k := by
  induction k with
  | zero => simp [bytesY, ByteArray.size_append, u4_size]
  | succ k ih => simp [bytesY, grpY, ByteArray.size_append, u4_size, ih]; omega
theorem bytesY_succ {l : List (Int × Int)} {s : Int} {k : Nat} (hk : k < l.length) {p q : Nat} (hx : l[k] = ((p : Int), (q : Int))) : bytesY l s (k + 1) = bytesY l s k ++ (u4 p ++ u4 q) := by
  rw [bytesY, grpY, List.getD_eq_getElem?_getD, List.getElem?_eq_getElem hk, Option.getD_some, hx]
  simp

theorem Held.drew {w0 w : World} {b : Nat} {a : Option Addr} {n c : Nat} {s : Int} {l : List (Int × Int)} (h : Held w0 w b a n c s l) : Held w0 { w with drawn := w.drawn + 1 } b a n c s l :=
  h.next (Below.refl _ w).drew
/-- A family of worlds that hold a measure. -/
structure KH (w0 : World) (b : Nat) (a : Option Addr) (n c : Nat) (s : Int) (l : List (Int × Int)) where
  v : World
  h : Held w0 v b a n c s l
/-- .. and a group in a block of its own. -/
structure HeldP (w0 w : World) (b : Nat) (a : Option Addr) (n c : Nat) (s : Int) (l : List (Int × Int)) (pb : Nat) (x : Int × Int) : Prop where
  h : Held w0 w b a n c s l
  p0 : w.cell? ⟨pb, 0, none⟩ = some (.int .i64 x.1)
  p1 : w.cell? ⟨pb, 1, none⟩ = some (.int .i64 x.2)
  plt : pb < w.heap.size
theorem HeldP.next {w0 w w' : World} {b : Nat} {a : Option Addr} {n c : Nat} {s : Int} {l : List (Int × Int)} {pb : Nat} {x : Int × Int} (h : HeldP w0 w b a n c s l pb x) (k : Below w.heap.size w w') : HeldP w0 w' b a n c s l pb x :=
  ⟨h.h.next k, by rw [k.cell (p := ⟨pb, 0, none⟩) h.plt]; exact h.p0, by rw [k.cell (p := ⟨pb, 1, none⟩) h.plt]; exact h.p1, Nat.lt_of_lt_of_le h.plt k.size⟩
theorem HeldP.drew {w0 w : World} {b : Nat} {a : Option Addr} {n c : Nat} {s : Int} {l : List (Int × Int)} {pb : Nat} {x : Int × Int} (h : HeldP w0 w b a n c s l pb x) : HeldP w0 { w with drawn := w.drawn + 1 } b a n c s l pb x :=
  h.next (Below.refl _ w).drew
theorem HeldP.start {w0 w : World} {b : Nat} {a : Option Addr} {n c : Nat} {s : Int} {l : List (Int × Int)} (h : Held w0 w b a n c s l) (x : Int × Int) :
    HeldP w0 (w.alloc (.cells #[.int .i64 x.1, .int .i64 x.2] 32)) b a n c s l w.heap.size x :=
  ⟨h.next (boxed _ _), by simp, by simp, by simp⟩
structure KP (w0 : World) (b : Nat) (a : Option Addr) (n c : Nat) (s : Int) (l : List (Int × Int)) (pb : Nat) (x : Int × Int) where
  v : World
  h : HeldP w0 v b a n c s l pb x

theorem bytes_none (l : List (Int × Int)) (s : Int) (v : Value) (w : World) (h : Meas w v l s) (hno : rightL l s = false) :
    Calls Try.prog 17 #[v] w fun e w' => e = .returned (.string ⟨#[]⟩) ∧ Below w.heap.size w w' := by
  obtain ⟨a, n, c, rfl, hg⟩ := id h
  have K := Lib.hid (Held.start h)
  have HB := Lib.hid hno
  clear h hg hno
  go_enter Try.func17, Try.ntmps17
  go_wp2_with fail
  refine (right_any l s _ _ K.out.m false HB.out).mono ?_
  rintro e w1 ⟨rfl, b1⟩
  go_wp2
  go_ret
  exact ⟨rfl, next K.out.below b1⟩

set_option maxHeartbeats 1000000 in
theorem bytes_some (l : List (Int × Int)) (s : Int) (v : Value) (w : World) (h : Meas w v l s) (hr : RightM l s) :
    Calls Try.prog 17 #[v] w fun e w' => e = .returned (.string (bytesY l s l.length)) ∧ Below w.heap.size w w' := by
  obtain ⟨a, n, c, rfl, hg⟩ := id h
  have hn := hg.1.2.1
  have hn4 : n ≤ 4 := by rw [← hn]; exact hr.few
  have s0 := hr.s0
  have s1 := hr.s1
  obtain ⟨sN, rfl⟩ := Int.eq_ofNat_of_zero_le (show 0 ≤ s by omega)
  have K := Lib.hid (Held.start h)
  have HR := Lib.hid hr
  have HN := Lib.hid hn
  have HY0 : Hid (u4 n ++ u4 sN = bytesY l (sN : Int) 0) := Lib.hid (by rw [bytesY, hn]; rfl)
  clear h hg hr hn
  have hu1 := u4_size n
  have hu2 := u4_size sN
  go_enter Try.func17, Try.ntmps17
  go_wp2_with fail
  refine (right_any l _ _ _ K.out.m true (rightM_iff.2 HR.out)).mono ?_
  rintro e w1 ⟨rfl, b1⟩
  have K1 := Lib.hid (K.out.next b1)
  clear b1 K
  go_wp2_with fail
  have HC : Hid (∀ (x : Nat) (z : KH w w.heap.size a n c (sN : Int) l), x < 4294967296 → Calls Try.prog 25 #[.int .i64 (x : Int)] z.v fun e w' => e = .returned (.string (u4 x)) ∧ ∃ y : KH w w.heap.size a n c (sN : Int) l, w' = y.v) :=
    Lib.hid (fun x z hx => (u32_u4 x z.v hx).mono fun e w' ⟨he, hb⟩ => ⟨he, ⟨w', z.h.next hb⟩, rfl⟩)
  have k0 := fun z : KH w w.heap.size a n c (sN : Int) l => z.h.c0
  have k1 := fun z : KH w w.heap.size a n c (sN : Int) l => z.h.c1
  haveI hne : Nonempty (KH w w.heap.size a n c (sN : Int) l) := ⟨⟨w1, K1.out⟩⟩
  refine wp_region_family (KH.v (w0 := w) (b := w.heap.size) (a := a) (n := n) (c := c) (s := (sN : Int)) (l := l)) (by kernel_rfl) (by kernel_rfl) ⟨⟨_, K1.out.drew⟩, rfl⟩ ?_
  repeat (go_big_quiet_step (first
    | (go_at_call_of 25 (Value.int IntKind.i64 (n : Int)); exact HC.out _ _ (by omega))
    | (go_at_call_of 25 (Value.int IntKind.i64 (sN : Int)); exact HC.out _ _ (by omega))))
  refine wpQuiet_nil ?_
  rintro w7 ⟨⟨w2, K2⟩, rfl⟩
  have K2 := Lib.hid K2
  clear hne k0 k1 HC K1
  have c0 := K2.out.c0
  generalize hy0 : u4 n ++ u4 sN = y0
  have HY : Hid (y0 = bytesY l (sN : Int) 0) := Lib.hid (by rw [← hy0]; exact HY0.out)
  clear hu1 hu2 hy0 HY0
  go_wp2_with fail
  go_loopw [3, 20] (fun t i wr => ∃ (k : Nat) (y : ByteArray), k ≤ n ∧ i = .int .i64 (k : Int) ∧ t = .string y ∧ y.size ≤ 8 + 8 * k ∧ Hid (y = bytesY l (sN : Int) k) ∧ Hid (Held w wr w.heap.size a n c (sN : Int) l)) (fun _ i _ => n - (intOf i).toNat)
  case atStart => exact ⟨0, y0, Nat.zero_le _, rfl, rfl, by rw [HY.out, bytesY_size]; omega, HY, K2⟩
  case round =>
    obtain ⟨k, y, hk, rfl, rfl, hys, HY, K3⟩ := hrel
    clear c0
    have c0 := K3.out.c0
    by_cases hlt : k < n
    · have hkl : k < l.length := by rw [HN.out]; exact hlt
      obtain ⟨kk, u, hl, hok⟩ : ∃ kk u, l[k] = (kk, u) ∧ okG (kk, u) = true := ⟨l[k].1, l[k].2, rfl, HR.out.all k hkl⟩
      have hkk : 0 ≤ kk ∧ kk ≤ 1 ∧ 0 ≤ u ∧ u ≤ 8 := by rcases okG_cases hok with ⟨rfl, _, _⟩ | ⟨rfl, _, _⟩ <;> omega
      obtain ⟨kk0, kk1, u0, u8⟩ := hkk
      obtain ⟨p, rfl⟩ := Int.eq_ofNat_of_zero_le kk0
      obtain ⟨q, rfl⟩ := Int.eq_ofNat_of_zero_le u0
      obtain ⟨g, o, rfl, hlt2, e0, e1⟩ := K3.out.at_ hkl hl
      dsimp only at e0 e1
      have HS := Lib.hid (bytesY_succ (s := (sN : Int)) hkl hl)
      have KP0 := Lib.hid (HeldP.start K3.out ((p : Int), (q : Int)))
      dsimp only at KP0
      have hu1 := u4_size p
      have hu2 := u4_size q
      clear hok hl hkl
      go_wp2_with fail
      generalize hpb : wr.heap.size = pb at KP0
      generalize wr.alloc (.cells #[.int .i64 (p : Int), .int .i64 (q : Int)] 32) = w3 at KP0
      have HC : Hid (∀ (x : Nat) (z : KP w w.heap.size (some ⟨g, o, none⟩) n c (sN : Int) l pb ((p : Int), (q : Int))), x < 4294967296 → Calls Try.prog 25 #[.int .i64 (x : Int)] z.v fun e w' => e = .returned (.string (u4 x)) ∧ ∃ y : KP w w.heap.size (some ⟨g, o, none⟩) n c (sN : Int) l pb ((p : Int), (q : Int)), w' = y.v) :=
        Lib.hid (fun x z hx => (u32_u4 x z.v hx).mono fun e w' ⟨he, hb⟩ => ⟨he, ⟨w', z.h.next hb⟩, rfl⟩)
      have k0 := fun z : KP w w.heap.size (some ⟨g, o, none⟩) n c (sN : Int) l pb ((p : Int), (q : Int)) => z.h.p0
      have k1 := fun z : KP w w.heap.size (some ⟨g, o, none⟩) n c (sN : Int) l pb ((p : Int), (q : Int)) => z.h.p1
      dsimp only at k0 k1
      haveI hne : Nonempty (KP w w.heap.size (some ⟨g, o, none⟩) n c (sN : Int) l pb ((p : Int), (q : Int))) := ⟨⟨w3, KP0.out⟩⟩
      refine wp_region_family (KP.v (w0 := w) (b := w.heap.size) (a := some ⟨g, o, none⟩) (n := n) (c := c) (s := (sN : Int)) (l := l) (pb := pb) (x := ((p : Int), (q : Int)))) (by kernel_rfl) (by kernel_rfl) ⟨⟨_, KP0.out.drew⟩, rfl⟩ ?_
      repeat (go_big_quiet_step (first
        | (go_at_call_of 25 (Value.int IntKind.i64 (p : Int)); exact HC.out _ _ (by omega))
        | (go_at_call_of 25 (Value.int IntKind.i64 (q : Int)); exact HC.out _ _ (by omega))))
      refine wpQuiet_nil ?_
      rintro w8 ⟨⟨w4, K4⟩, rfl⟩
      have K5 := Lib.hid K4.h
      try dsimp only at K5
      clear hne k0 k1 HC KP0 K4
      go_wp2
      go_roundw
      case rel =>
        refine ⟨k + 1, y ++ (u4 p ++ u4 q), by omega, by go_num, rfl, ?_, Lib.hid (by rw [HS.out, ← HY.out]), K5⟩
        simp [ByteArray.size_append, hu1, hu2]; omega
      case measure => simp [intOf]; omega
    · obtain rfl : k = n := by omega
      go_wp2
      go_ret
      exact ⟨by rw [HN.out, ← HY.out]; rfl, K3.out.below⟩
end Go.Proofs.Ytpbhbpopebjgiaa
