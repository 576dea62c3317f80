/-
  The document's answers of layer 2: a sum's bytes.
-/
import Derived.Test.YthpifplflhhkiaaFkeep
import Derived.Test.YthpifplflhhkiaaFby
import Derived.Test.YthpifplflhhkiaaRef
namespace Go.Proofs.Ythpifplflhhkiaa
set_option maxRecDepth 100000
open Go.RowKit M

set_option maxHeartbeats 2000000 in
theorem refBytes_any (q : Q) (w : World) (hq : q.Ok) :
    Calls Try.prog 28 #[.agg #[.int .u64 q.a, .int .u64 q.b, .int .u64 q.c, .int .u64 q.d]] w fun e w' =>
      e = .returned (.string (bytesQ q)) ∧ Below w.heap.size w w' := by
  have hK : Kept w w.heap.size q (w.alloc (.cells #[.int .u64 q.a, .int .u64 q.b, .int .u64 q.c, .int .u64 q.d] 26)) := ⟨HoldsQ.new w q 26, by simp, (Below.refl _ w).alloc (Nat.le_refl _) _⟩
  have HC : Hid (∀ (x : Nat) (z : KW w w.heap.size q), x < 18446744073709551616 → Calls Try.prog 41 #[.int .u64 x, .int .i64 8] z.v fun e w' => e = .returned (.string (w8 x)) ∧ ∃ y : KW w w.heap.size q, w' = y.v) :=
    Lib.hid (fun x z hx => (refLay_any x 8 z.v hx (by omega)).mono fun e w' ⟨he, hb⟩ => ⟨he, ⟨w', z.h.next hb⟩, rfl⟩)
  have k0 := fun z : KW w w.heap.size q => z.h.holds.c0
  have k1 := fun z : KW w w.heap.size q => z.h.holds.c1
  have k2 := fun z : KW w w.heap.size q => z.h.holds.c2
  have k3 := fun z : KW w w.heap.size q => z.h.holds.c3
  have h0 := w8_size q.a
  have h1 := w8_size q.b
  have h2 := w8_size q.c
  have h3 := w8_size q.d
  go_enter Try.func28, Try.ntmps28
  go_wp2_with fail
  generalize w.alloc (.cells #[.int .u64 q.a, .int .u64 q.b, .int .u64 q.c, .int .u64 q.d] 26) = w1 at hK
  haveI hne : Nonempty (KW w w.heap.size q) := ⟨⟨w1, hK⟩⟩
  refine wp_region_family (KW.v (w0 := w) (b := w.heap.size) (r := q)) (by kernel_rfl) (by kernel_rfl) ⟨⟨_, hK.drew⟩, rfl⟩ ?_
  repeat (go_big_quiet_step (first
    | (go_at_call_of 41 (Value.int IntKind.u64 (q.a : Int)); exact HC.out _ _ hq.a)
    | (go_at_call_of 41 (Value.int IntKind.u64 (q.b : Int)); exact HC.out _ _ hq.b)
    | (go_at_call_of 41 (Value.int IntKind.u64 (q.c : Int)); exact HC.out _ _ hq.c)
    | (go_at_call_of 41 (Value.int IntKind.u64 (q.d : Int)); exact HC.out _ _ hq.d)))
  refine wpQuiet_nil ?_
  rintro w7 ⟨⟨w8', h8⟩, rfl⟩
  go_wp2
  go_ret
  exact ⟨rfl, h8.below⟩
end Go.Proofs.Ythpifplflhhkiaa
