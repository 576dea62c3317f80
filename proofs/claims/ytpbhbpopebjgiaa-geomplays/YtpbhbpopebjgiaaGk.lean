/-
  The document's Owners: what it answers.
-/
import Derived.Test.YtpbhbpopebjgiaaGj
import Derived.Laws.AppendOwn
import Derived.Laws.OwnMore
import Derived.IntWalk
namespace Go.Proofs.Ytpbhbpopebjgiaa
open Go.RowKit M

/-- The owners of the first k groups' devices. -/
def ownTo (l : List (Int × Int)) : Nat → List Int
  | 0 => []
  | k + 1 => ownTo l k ++ List.replicate (l.getD k (0, 0)).2.toNat (k : Int)
theorem ownTo_succ {l : List (Int × Int)} {k : Nat} (hk : k < l.length) {p u : Int} (hx : l[k] = (p, u)) : ownTo l (k + 1) = ownTo l k ++ List.replicate u.toNat (k : Int) := by
  rw [ownTo, List.getD_eq_getElem?_getD, List.getElem?_eq_getElem hk, Option.getD_some, hx]
theorem ownTo_len {l : List (Int × Int)} {s : Int} (hr : RightM l s) (k : Nat) (hk : k ≤ l.length) : ((ownTo l k).length : Int) = aheadL l k := by
  induction k with
  | zero => rw [aheadL_zero]; rfl
  | succ k ih =>
    obtain ⟨p, u, hx⟩ : ∃ p u, l[k] = (p, u) := ⟨_, _, rfl⟩
    have hw := okG_wide (hr.all k hk)
    rw [ownTo_succ hk hx, List.length_append, List.length_replicate, aheadL_succ l k hk, hx]
    rw [hx] at hw
    dsimp only at hw ⊢
    have := ih (by omega)
    omega
theorem ownTo_pre {l : List (Int × Int)} {k n : Nat} (h : k ≤ n) {i : Nat} (hi : i < (ownTo l k).length) : (ownTo l n)[i]? = (ownTo l k)[i]? := by
  induction n with
  | zero => obtain rfl : k = 0 := by omega
            rfl
  | succ n ih =>
    by_cases e : k = n + 1
    · subst e; rfl
    · have hle : k ≤ n := by omega
      have h1 := ih hle
      have h2 : i < (ownTo l n).length := by
        rcases Nat.lt_or_ge i (ownTo l n).length with h | h
        · exact h
        · rw [List.getElem?_eq_none h, List.getElem?_eq_getElem hi] at h1
          cases h1
      rw [ownTo, List.getElem?_append_left h2, h1]
/-- A device's owner. -/
theorem ownTo_get {l : List (Int × Int)} {s : Int} (hr : RightM l s) {k : Nat} (hk : k < l.length) {p u : Int} (hx : l[k] = (p, u)) {j : Nat} (hj : (j : Int) < u) {i : Nat} (hi : (i : Int) = aheadL l k + j) :
    (ownTo l l.length)[i]? = some (k : Int) := by
  have hlen := ownTo_len hr k (Nat.le_of_lt hk)
  have e : (ownTo l (k + 1))[i]? = some (k : Int) := by
    rw [ownTo_succ hk hx, List.getElem?_append_right (by omega), List.getElem?_replicate, if_pos (by omega)]
  rw [ownTo_pre (k := k + 1) (n := l.length) hk, e]
  rcases Nat.lt_or_ge i (ownTo l (k + 1)).length with h | h
  · exact h
  · rw [List.getElem?_eq_none h] at e
    cases e
/-- A row of numbers in memory. -/
structure IntsAt (w : World) (g : Nat) (zs : List Int) : Prop where
  lt : g < w.heap.size
  at_ : ∀ (i : Nat) (z : Int), zs[i]? = some z → w.cell? ⟨g, i, none⟩ = some (.int .i64 z)
theorem IntsAt.next {w w' : World} {g : Nat} {zs : List Int} (h : IntsAt w g zs) (k : Below w.heap.size w w') : IntsAt w' g zs :=
  ⟨Nat.lt_of_lt_of_le h.lt k.size, fun i z hz => by rw [k.cell (p := ⟨g, i, none⟩) h.lt]; exact h.at_ i z hz⟩
theorem info_int : ∃ i, Try.prog.info? 3 = some i ∧ i.zero = some (.int .i64 0) ∧ i.size = 1 ∧ i.bytes = 8 := info_parts (by kernel_rfl)
def OwnRow (B : Nat) (wr : World) (v : Value) (N : Nat) (zs : List Int) : Prop := wr.ownsRow B 3 1 v N (zs.map (Value.int .i64))

set_option maxHeartbeats 2000000 in
theorem owners_any (l : List (Int × Int)) (s : Int) (v : Value) (w : World) (h : Meas w v l s) (hr : RightM l s) :
    Calls Try.prog 18 #[v] w fun e w' => ∃ g c, e = .returned (.slice (some ⟨g, 0, none⟩) (ownTo l l.length).length c) ∧ IntsAt w' g (ownTo l l.length) ∧ Below w.heap.size w w' := by
  obtain ⟨i0, hi, hz0, hz1, hz2⟩ := info_int
  obtain ⟨a, n, c, rfl, hg⟩ := id h
  have hn := hg.1.2.1
  have hn4 : n ≤ 4 := by rw [← hn]; exact hr.few
  have K1 := Lib.hid (Held.start h)
  have HR := Lib.hid hr
  have HN := Lib.hid hn
  clear h hg hr hn
  go_enter Try.func18, Try.ntmps18
  go_wp2_with fail
  generalize hW1 : w.alloc (.cells #[.slice a n c, .int .i64 s] 24) = W1 at K1
  clear hW1
  go_loopw [3, 4] (fun t i wr => ∃ (k N : Nat) (zs : List Int), k ≤ n ∧ N ≤ 32 ∧ i = .int .i64 (k : Int) ∧ Hid (zs = ownTo l k) ∧ Hid (zs.length = N) ∧ Hid (OwnRow W1.heap.size wr t N zs) ∧ Hid (Below W1.heap.size W1 wr)) (fun _ i _ => n - (intOf i).toNat)
  case atStart => exact ⟨0, 0, [], Nat.zero_le _, by omega, rfl, Lib.hid rfl, Lib.hid rfl, Lib.hid (World.ownsRow_nil _ _ _ _), Lib.hid (Below.refl _ _)⟩
  case round =>
    obtain ⟨k, N, zs, hk, hN, rfl, HZ, HL, HO, HB⟩ := hrel
    have K2 := Lib.hid (K1.out.next HB.out)
    have c0 := K2.out.c0
    by_cases hlt : k < n
    · have hkl : k < l.length := by rw [HN.out]; exact hlt
      obtain ⟨kk, u, hl, hok⟩ : ∃ kk u, l[k] = (kk, u) ∧ okG (kk, u) = true := ⟨l[k].1, l[k].2, rfl, HR.out.all k hkl⟩
      obtain ⟨u1, u8⟩ : 1 ≤ u ∧ u ≤ 8 := okG_wide hok
      obtain ⟨q, rfl⟩ := Int.eq_ofNat_of_zero_le (show 0 ≤ u by omega)
      obtain ⟨g, o, rfl, hlt2, e0, e1⟩ := K2.out.at_ hkl hl
      clear e0 e1
      have hNq : N + q ≤ 32 := by
        have h1 := ownTo_len HR.out (k + 1) hkl
        have h2 := (HR.out.bounds (k + 1) hkl).2
        rw [ownTo_succ hkl hl, List.length_append, List.length_replicate, ← HZ.out, HL.out] at h1
        have : k + 1 ≤ 4 := by omega
        simp at h1
        omega
      have HS : Hid (ownTo l (k + 1) = zs ++ List.replicate q (k : Int)) := Lib.hid (by rw [ownTo_succ hkl hl, HZ.out]; simp)
      have HLk : Hid (∃ hk : k < l.length, l[k] = (kk, (q : Int))) := Lib.hid ⟨hkl, hl⟩
      clear hok hl hkl
      go_wp2_with fail
      go_loopw [3, 5] (fun t i wr => ∃ (j : Nat), j ≤ q ∧ i = .int .i64 (j : Int) ∧ Hid (OwnRow W1.heap.size wr t (N + j) (zs ++ List.replicate j (k : Int))) ∧ Hid (Below W1.heap.size W1 wr)) (fun _ i _ => q - (intOf i).toNat)
      case atStart => exact ⟨0, Nat.zero_le _, rfl, Lib.hid (by simpa using HO.out), HB⟩
      case round =>
        obtain ⟨j, hj, rfl, HO2, HB2⟩ := hrel
        have K3 := Lib.hid (K1.out.next HB2.out)
        clear c0
        have c0 := K3.out.c0
        obtain ⟨e0, e1⟩ := K3.out.at2 HLk.out.1 HLk.out.2
        dsimp only at e0 e1
        by_cases hjq : j < q
        · have hO3 : wr.ownsRow W1.heap.size 3 1 u3 (N + j) ((zs ++ List.replicate j (k : Int)).map (Value.int .i64)) := HO2.out
          have HO3 := Lib.hid hO3
          have hsz := HB2.out.size
          clear hO3
          go_wp2_with (first | (at_builtin; refine wpList_append_own_at _ rfl _ _ 37 rfl W1.heap.size 3 i0 (.int .i64 0) 1 8 Try.underlying37 hi hz0 hz1 hz2 rfl (by decide) _ _ _ rfl (World.ownsRow.alloc HO3.out _) ⟨wr.heap.size, 0, none⟩ 1 1 [.int .i64 (k : Int)] rfl rfl (cell_one_new _ _ _) (ints_oneCell .i64 [(k : Int)]) (by unfold maxLen; omega) (by omega) (by simp; omega) ?_; intro v3 w3 hown3 hg3 hnil3 hloc3))
          have hg3' : (wr.alloc (.cells #[.int .i64 (k : Int)] 3)).grownBy w3 (Value.ownBlock u3) := hg3
          clear hg3 hnil3 hloc3
          go_roundw
          case rel =>
            refine ⟨j + 1, by omega, by go_num, Lib.hid ?_, Lib.hid ((HB2.out.alloc hsz _).grown hg3' (by simp; omega) fun i hi => (HO3.out.lt i hi).1)⟩
            unfold OwnRow
            rw [List.replicate_succ', ← List.append_assoc, List.map_append]
            exact hown3
          case measure => simp [intOf]; omega
        · obtain rfl : j = q := by omega
          go_wp2
          go_roundw
          case rel =>
            exact ⟨k + 1, N + j, zs ++ List.replicate j (k : Int), by omega, hNq, by go_num, Lib.hid HS.out.symm, Lib.hid (by rw [List.length_append, List.length_replicate, HL.out]), HO2, HB2⟩
          case measure => simp [intOf]; omega
    · obtain rfl : k = n := by omega
      have hlp : 0 < N := by
        have h1 := ownTo_len HR.out k (by rw [HN.out]; exact Nat.le_refl _)
        have h2 := (HR.out.bounds k (by rw [HN.out]; exact Nat.le_refl _)).1
        rw [← HZ.out, HL.out] at h1
        have h3 := HR.out.pos
        rw [HN.out] at h3
        omega
      have hcells := fun g hg => World.ownsRow.cells (g := g) HO.out hg
      rcases HO.out.2 with ⟨_, h0⟩ | ⟨g, cap, cur, rfl, hB, hb, _⟩
      · omega
      · have hzz : zs = ownTo l l.length := by rw [HN.out]; exact HZ.out
        have HI : Hid (IntsAt wr g (ownTo l l.length)) := Lib.hid ⟨(Array.getElem?_eq_some_iff.1 hb).1, fun i z hz => by
          rw [← hzz] at hz
          have e := hcells g rfl i (.int .i64 z) (by rw [List.getElem?_map, hz]; rfl)
          rwa [Go.WideShapes.add_plain, Nat.zero_add] at e⟩
        have HNN : Hid (N = (ownTo l l.length).length) := Lib.hid (by rw [← hzz, HL.out])
        clear hcells hB hb hzz
        go_wp2
        go_ret
        exact ⟨g, cap, by rw [← HNN.out]; rfl, HI.out, next K1.out.below HB.out⟩
end Go.Proofs.Ytpbhbpopebjgiaa
