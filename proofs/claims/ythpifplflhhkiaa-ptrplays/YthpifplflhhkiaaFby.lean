/-
  fletch.Bytes, Read: what they answer.
-/
import Derived.Test.YthpifplflhhkiaaFgr
import Derived.Test.YthpifplflhhkiaaFq
import Derived.Test.YthpifplflhhkiaaWords
import Derived.Test.YthpifplflhhkiaaFw
namespace Go.Proofs.Ythpifplflhhkiaa
set_option maxRecDepth 100000
open Go.RowKit Go.Shelf M

/-- A wide number's bytes. -/
def w8 (x : Nat) : ByteArray := ⟨(layL x 8).toArray⟩
theorem w8_size (x : Nat) : (w8 x).size = 8 := by rw [size_list]; exact layL_length 8 x
theorem u64_w8 (x : Nat) (w : World) (hx : x < 18446744073709551616) :
    Calls Try.prog 36 #[.int .u64 x] w fun e w' => e = .returned (.string (w8 x)) ∧ Below w.heap.size w w' := u64_any x w hx

set_option maxHeartbeats 1000000 in
theorem bytes_any (q : Q) (w : World) (hq : q.Ok) :
    Calls Try.prog 21 #[.agg #[.int .u64 q.a, .int .u64 q.b, .int .u64 q.c, .int .u64 q.d]] w fun e w' =>
      e = .returned (.string (w8 q.a ++ w8 q.b ++ w8 q.c ++ w8 q.d)) ∧ Below w.heap.size w w' := by
  have ha := sum_at0
  have hb := sum_at1
  have hc := sum_at2
  have hd := sum_at3
  have h0 := w8_size q.a
  have h1 := w8_size q.b
  have h2 := w8_size q.c
  have h3 := w8_size q.d
  have hbe := (Below.refl w.heap.size w).alloc (Nat.le_refl _) (.cells #[.int .u64 q.a, .int .u64 q.b, .int .u64 q.c, .int .u64 q.d] 26)
  go_enter Try.func21, Try.ntmps21
  go_wp2
  refine wp_loop_rounds 5 ?_
  rw [rounds_succ]
  go_wp2_with fail
  refine (u64_w8 q.a _ hq.a).mono ?_
  rintro e w1 ⟨rfl, b1⟩
  have c1 := hbe.trans (b1.mono (by simp))
  clear b1 hbe
  go_wp2_with fail
  rw [rounds_succ]
  go_wp2_with fail
  refine (u64_w8 q.b _ hq.b).mono ?_
  rintro e w2 ⟨rfl, b2⟩
  have c2 := early2 c1 b2
  clear c1 b2
  go_wp2_with fail
  rw [rounds_succ]
  go_wp2_with fail
  refine (u64_w8 q.c _ hq.c).mono ?_
  rintro e w3 ⟨rfl, b3⟩
  have c3 := early2 c2 b3
  clear c2 b3
  go_wp2_with fail
  rw [rounds_succ]
  go_wp2_with fail
  refine (u64_w8 q.d _ hq.d).mono ?_
  rintro e w4 ⟨rfl, b4⟩
  have c4 := early2 c3 b4
  clear c3 b4
  go_wp2_with fail
  rw [rounds_succ]
  go_wp2
  go_ret
  refine ⟨?_, c4⟩
  rw [show (({ data := #[] } : ByteArray) ++ w8 q.a) = w8 q.a from ext_list (by rw [append_data]; rfl)]
  rfl
/-- A sum's bytes. -/
def bytesQ (q : Q) : ByteArray := w8 q.a ++ w8 q.b ++ w8 q.c ++ w8 q.d
theorem bytesQ_list (q : Q) : (bytesQ q).data.toList = layL q.a 8 ++ layL q.b 8 ++ layL q.c 8 ++ layL q.d 8 := by
  simp only [bytesQ, append_data]
  rfl
theorem bytesQ_size (q : Q) : (bytesQ q).size = 32 := by
  simp only [bytesQ, append_size, w8_size]
/-- The sum that stands at the beginning of a text. -/
def readQ (s : ByteArray) : Q := ⟨numL (s.data.toList.take 8), numL ((s.data.toList.drop 8).take 8), numL ((s.data.toList.drop 16).take 8), numL ((s.data.toList.drop 24).take 8)⟩
end Go.Proofs.Ythpifplflhhkiaa
