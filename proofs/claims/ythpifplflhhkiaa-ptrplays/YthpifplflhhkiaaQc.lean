/-
  ptr.stands, apart, Right: what they answer.
-/
import Derived.Test.YthpifplflhhkiaaQb
namespace Go.Proofs.Ythpifplflhhkiaa
set_option maxRecDepth 100000
open Go.RowKit M

theorem stands_any (l : List (Int × Int)) (s : Int) (v : Value) (w : World) (h : Meas w v l s) (k t z : Int) (hk : I64 k) (ht : I64 t) (hz : I64 z) (b : Bool) (hb : mayL l s k t z = b) :
    Calls Try.prog 30 #[v, .agg #[.int .i64 k, .int .i64 t], .int .i64 z] w fun e w' => e = .returned (.bool b) ∧ Below w.heap.size w w' := by
  obtain ⟨a, n, c, rfl, hg⟩ := id h
  have K := Lib.hid (HeldP.start k t h)
  have HB := Lib.hid hb
  clear h hg hb
  go_enter Try.func30, Try.ntmps30
  go_wp2_with fail
  refine (of_any l s _ _ K.out.h.m k t z hk ht hz).mono ?_
  rintro e w1 ⟨v', er, rfl, hO, b1⟩
  have K1 := Lib.hid (K.out.next b1)
  clear b1 K
  rcases hO with ⟨hm, rfl, rfl⟩ | ⟨k', t', z', hk', ht', hz', hB, rfl, hown⟩
  · have HM := Lib.hid hm
    clear hm
    go_wp2
    go_ret
    exact ⟨by rw [← HB.out, HM.out]; rfl, K1.out.h.below⟩
  · have HM := Lib.hid (mayL_iff.2 ⟨k', t', z', hk', ht', hz', hB⟩)
    clear hk' ht' hz' hB hown
    go_wp2
    go_ret
    exact ⟨by rw [← HB.out, HM.out]; rfl, K1.out.h.below⟩

/-- A group's cells: what a block takes of it. -/
def tk (l : List (Int × Int)) (k z : Int) : Int := takesG (l.getD k.toNat (0, 0)) z
/-- Do two stretches share no sector? -/
def apartL (l : List (Int × Int)) (ag aa bg ba z : Int) : Bool := decide (¬ ag = bg ∨ aa + tk l ag z ≤ ba ∨ ba + tk l ag z ≤ aa)
theorem takes_le {k : Int × Int} {z : Int} (z4 : z ≤ 4) : takesG k z ≤ 6 := by
  unfold takesG; split <;> (try split) <;> (try split) <;> (try split) <;> (try split) <;> omega
theorem takes_ge {k : Int × Int} {z : Int} (z1 : 1 ≤ z) : 1 ≤ takesG k z := by
  unfold takesG; split <;> (try split) <;> (try split) <;> (try split) <;> (try split) <;> omega
theorem gives_le {l : List (Int × Int)} {s : Int} {k : Nat} (h : RightM l s) (hk : k < l.length) : gives l[k] s ≤ 32768 := by
  have h1 := h.s1
  have h2 := h.s0
  have h3 := okG_wide (h.all k hk)
  unfold gives
  split
  · generalize l[k].2 = u at h3
    have : (s - 16) * u ≤ 4080 * 8 := Int.mul_le_mul (by omega) (by omega) (by omega) (by omega)
    omega
  · omega
theorem mayL_facts {l : List (Int × Int)} {s k t z : Int} (h : mayL l s k t z = true) : RightM l s ∧ (∃ k' : Nat, k = k' ∧ k' < l.length) ∧ 1 ≤ z ∧ z ≤ 4 ∧ 0 ≤ t ∧ t ≤ 32768 ∧ 1 ≤ tk l k z ∧ tk l k z ≤ 6 := by
  obtain ⟨k', t', z', rfl, rfl, rfl, hB⟩ := mayL_iff.1 h
  have h1 := hB.z1
  have h4 := hB.z4
  have hf := hB.fit
  have hg := gives_le hB.right hB.hk
  have hk := hB.hk
  have ht : 1 ≤ takesG l[k'] (z' : Int) := takes_ge (by omega)
  refine ⟨hB.right, ⟨k', rfl, hB.hk⟩, by omega, by omega, by omega, by omega, takes_ge (by omega), takes_le (by omega)⟩

theorem at_new (U : World) (m : Nat) (hm : U.heap.size = m) (x y : Value) (ty : TypeId) : (U.alloc (.cells #[x, y] ty)).cell? ⟨m, 0, none⟩ = some x ∧ (U.alloc (.cells #[x, y] ty)).cell? ⟨m, 1, none⟩ = some y := by
  subst hm; simp
theorem apart_any (l : List (Int × Int)) (s : Int) (v : Value) (w : World) (h : Meas w v l s) (ag aa bg ba z : Int) (hA : mayL l s ag aa z = true) (hB : mayL l s bg ba z = true) (b : Bool) (hb : apartL l ag aa bg ba z = b) :
    Calls Try.prog 31 #[v, .agg #[.int .i64 ag, .int .i64 aa], .agg #[.int .i64 bg, .int .i64 ba], .int .i64 z] w fun e w' => e = .returned (.bool b) ∧ Below w.heap.size w w' := by
  obtain ⟨hr, ⟨k', rfl, hk'⟩, z1, z4, a0, a1, t0, t1⟩ := mayL_facts hA
  obtain ⟨_, _, _, _, b0, b1, _, _⟩ := mayL_facts hB
  obtain ⟨a, n, c, rfl, hg⟩ := id h
  have K := Lib.hid ((HeldP.start (k' : Int) aa h).next (boxed _ (.cells #[.int .i64 bg, .int .i64 ba] 23)))
  have HB := Lib.hid hb
  have HX := Lib.hid (rfl : tk l (k' : Int) z = tk l (k' : Int) z)
  have hx : takesG l[k'] z = tk l (k' : Int) z := by rw [tk, Int.toNat_natCast, getD_at hk']
  have HT := Lib.hid hx
  clear h hg hb hA hB hx
  unfold apartL at HB
  generalize tk l (k' : Int) z = x at HB t0 t1 HT
  go_enter Try.func31, Try.ntmps31
  go_wp2_with fail
  refine (takes_some l s _ _ K.out.h.m hr k' hk' z z1 z4 x HT.out).mono ?_
  rintro e w1 ⟨rfl, b1'⟩
  have hbw := Lib.hid (next K.out.h.below b1')
  have K1 := K.out.next b1'
  have c0 := K1.p0
  have c1 := K1.p1
  have d0 : w1.cell? ⟨w.heap.size + 2, 0, none⟩ = some (.int .i64 bg) := by rw [b1'.cell (p := ⟨w.heap.size + 2, 0, none⟩) (by simp)]; exact (at_new _ _ (by simp) _ _ _).1
  have d1 : w1.cell? ⟨w.heap.size + 2, 1, none⟩ = some (.int .i64 ba) := by rw [b1'.cell (p := ⟨w.heap.size + 2, 1, none⟩) (by simp)]; exact (at_new _ _ (by simp) _ _ _).2
  clear K1 b1' K
  by_cases h1 : (k' : Int) = bg
  · by_cases h2 : aa + x ≤ ba
    · go_wp2
      go_ret
      exact ⟨by rw [← HB.out]; simp [h1, h2], hbw.out⟩
    · by_cases h3 : ba + x ≤ aa
      · go_wp2
        go_ret
        exact ⟨by rw [← HB.out]; simp [h1]; omega, hbw.out⟩
      · go_wp2
        go_ret
        exact ⟨by rw [← HB.out]; simp [h1], hbw.out⟩
  · go_wp2
    go_ret
    exact ⟨by rw [← HB.out]; simp [h1], hbw.out⟩
end Go.Proofs.Ythpifplflhhkiaa
