/-
  space.Free.
-/
import Derived.Test.YtoiiaacjpobaeaaSf
namespace Go.Proofs.Ytoiiaacjpobaeaa
set_option maxRecDepth 100000
open Go.RowKit

theorem cell_next {w w' : World} {b i : Nat} {v : Value} (h : w.cell? ⟨b, i, none⟩ = some v) (hb : Below w.heap.size w w') : w'.cell? ⟨b, i, none⟩ = some v := (hb.cell (p := ⟨b, i, none⟩) (World.block_lt_of_cell? w _ h)).trans h
section
variable {B : Nat} {x : Nat → Prop} {w : World} {b : Nat} {z a n : Int} {l l1 q : List (Int × Int)} {cx cy : Int}
theorem free_no (h : MapIn B x w b z l) (hz : 0 ≤ z ∧ z ≤ 65536) (hn : I64 n) (hh : hasB z a n = false) :
    Calls Try.prog 12 #[.pointer (some ⟨b, 0, none⟩), .int .i64 a, .int .i64 n] w (Did B x w b z l 1) := by
  obtain ⟨v, hv⟩ := h
  have c0 := hv.mv.c0
  have HC := Lib.hid (has_ok z a n b w c0 hz hn)
  rw [hh] at HC
  have H : Hid (MapIn B x w b z l) := Lib.hid ⟨v, hv⟩
  clear hv hh hn hz
  go_enter Try.func12, Try.ntmps12
  go_wp2_with fail
  refine HC.out.mono ?_
  rintro e w1 ⟨rfl, rfl⟩
  go_wp2
  go_ret
  exact ⟨rfl, H.out, KeptX.refl _ _ _⟩
theorem free_nil (a n : Int) (w : World) : Calls Try.prog 12 #[.pointer none, .int .i64 a, .int .i64 n] w fun e w' => e = .returned (.int .i64 1) ∧ w = w' := by
  go_enter Try.func12, Try.ntmps12
  go_wp2_with fail
  refine (has_nil a n w).mono ?_
  rintro e w1 ⟨rfl, rfl⟩
  go_wp2
  go_ret
  exact ⟨rfl, rfl⟩
set_option maxHeartbeats 1000000 in
theorem free_none1 (h : MapIn B x w b z l) (hw : WF z l) (hz : 0 ≤ z ∧ z ≤ 65536) (hn : I64 n) (hh : hasB z a n = true) (hc : Cut l l1 [] a) :
    Calls Try.prog 12 #[.pointer (some ⟨b, 0, none⟩), .int .i64 a, .int .i64 n] w (Did B x w b z l 7) := by
  have HN := Lib.hid (next_ok h hw hz hc _ rfl)
  have H := Lib.hid h
  obtain ⟨v, hv⟩ := h
  have HC := Lib.hid (has_ok z a n b w hv.mv.c0 hz hn)
  rw [hh] at HC
  obtain ⟨ga, N, cc, rfl, hN⟩ := hv.slice
  have HV := Lib.hid hv
  have hkN : l1.length = N := by rw [← hN, hc.eq]; simp
  rw [hkN] at HN
  clear hv hh hn hz hw hc hN hkN
  go_enter Try.func12, Try.ntmps12
  go_wp2_with fail
  refine HC.out.mono ?_
  rintro e w1 ⟨rfl, rfl⟩
  go_wp2_with fail
  refine HN.out.mono ?_
  rintro e w1 ⟨rfl, b1⟩
  have c1 := (HV.out.below b1).mv.c1
  have HB := Lib.hid b1
  clear b1
  go_wp2
  go_ret
  exact ⟨rfl, H.out.below HB.out, H.out.keep HB.out⟩
set_option maxHeartbeats 1000000 in
theorem free_none2 (h : MapIn B x w b z l) (hw : WF z l) (hz : 0 ≤ z ∧ z ≤ 65536) (hn : I64 n) (hh : hasB z a n = true) (hc : Cut l l1 ((cx, cy) :: q) a) (hlt : a < cx) :
    Calls Try.prog 12 #[.pointer (some ⟨b, 0, none⟩), .int .i64 a, .int .i64 n] w (Did B x w b z l 7) := by
  have HN := Lib.hid (next_ok h hw hz hc _ rfl)
  have H := Lib.hid h
  obtain ⟨v, hv⟩ := h
  have HC := Lib.hid (has_ok z a n b w hv.mv.c0 hz hn)
  rw [hh] at HC
  have hlen : l1.length < l.length := by rw [hc.eq]; simp
  obtain ⟨g, N, cc, rfl, hN, hR⟩ := hv.row (by omega)
  have HV := Lib.hid hv
  have hr := hR.is l1.length hlen
  have hel : l[l1.length] = (cx, cy) := by have := hc.eq; subst this; simp
  rw [hel] at hr
  generalize hk : l1.length = k at *
  have hkN : k < N := by omega
  have dN : ((k : Int) == (N : Int)) = false := by simp; omega
  have d1 : decide (a < cx) = true := decide_eq_true hlt
  have HR := Lib.hid hr
  clear hv hh hn hz hw hc hN hR hr hel hk hlt hlen
  go_enter Try.func12, Try.ntmps12
  go_wp2_with fail
  refine HC.out.mono ?_
  rintro e w1 ⟨rfl, rfl⟩
  go_wp2_with fail
  refine HN.out.mono ?_
  rintro e w1 ⟨rfl, b1⟩
  have c1 := (HV.out.below b1).mv.c1
  obtain ⟨r0, _⟩ := (HR.out.kept b1).pair
  have HB := Lib.hid b1
  clear b1
  go_wp2
  go_ret
  exact ⟨rfl, H.out.below HB.out, H.out.keep HB.out⟩
set_option maxHeartbeats 1000000 in
theorem free_none3 (h : MapIn B x w b z l) (hw : WF z l) (hz : 0 ≤ z ∧ z ≤ 65536) (hn : I64 n) (hh : hasB z a n = true) (hc : Cut l l1 ((cx, cy) :: q) a) (hle : cx ≤ a) (hlt : cx + cy < a + n) :
    Calls Try.prog 12 #[.pointer (some ⟨b, 0, none⟩), .int .i64 a, .int .i64 n] w (Did B x w b z l 7) := by
  have HN := Lib.hid (next_ok h hw hz hc _ rfl)
  obtain ⟨n1, a0, anz⟩ := hasB_true hh
  have H := Lib.hid h
  obtain ⟨v, hv⟩ := h
  have HC := Lib.hid (has_ok z a n b w hv.mv.c0 hz hn)
  rw [hh] at HC
  have hlen : l1.length < l.length := by rw [hc.eq]; simp
  obtain ⟨g, N, cc, rfl, hN, hR⟩ := hv.row (by omega)
  have HV := Lib.hid hv
  have hr := hR.is l1.length hlen
  have hel : l[l1.length] = (cx, cy) := by have := hc.eq; subst this; simp
  rw [hel] at hr
  obtain ⟨s0, s1, s2⟩ : 0 ≤ cx ∧ 1 ≤ cy ∧ cx + cy ≤ z := hw.ok (cx, cy) (by rw [hc.eq]; simp)
  have z1 := hz.2
  generalize hk : l1.length = k at *
  have hkN : k < N := by omega
  have dN : ((k : Int) == (N : Int)) = false := by simp; omega
  have d1 : decide (a < cx) = false := decide_eq_false (by omega)
  have d2 : decide (cx + cy < a + n) = true := decide_eq_true hlt
  have HR := Lib.hid hr
  clear hv hh hn hz hw hc hN hR hr hel hk hlt hlen
  go_enter Try.func12, Try.ntmps12
  go_wp2_with fail
  refine HC.out.mono ?_
  rintro e w1 ⟨rfl, rfl⟩
  go_wp2_with fail
  refine HN.out.mono ?_
  rintro e w1 ⟨rfl, b1⟩
  have c1 := (HV.out.below b1).mv.c1
  obtain ⟨r0, r1⟩ := (HR.out.kept b1).pair
  have HB := Lib.hid b1
  clear b1
  go_wp2_with fail
  refine (end_ok cx cy _ (by omega) (by omega) (by omega)).mono ?_
  rintro e w2 ⟨rfl, b2⟩
  have HB2 := Lib.hid (next HB.out b2)
  clear b2
  go_wp2
  go_ret
  exact ⟨rfl, H.out.below HB2.out, H.out.keep HB2.out⟩

set_option maxHeartbeats 4000000 in
theorem free_yes (h : MapIn B x w b z l) (hw : WF z l) (hz : 0 ≤ z ∧ z ≤ 65536) (hn : I64 n) (hh : hasB z a n = true) (hc : Cut l l1 ((cx, cy) :: q) a) (hle : cx ≤ a) (hge : a + n ≤ cx + cy) :
    Calls Try.prog 12 #[.pointer (some ⟨b, 0, none⟩), .int .i64 a, .int .i64 n] w (Did B x w b z (l1 ++ ((btw cx a ++ btw (a + n) (cx + cy)) ++ q)) 0) := by
  have HN := Lib.hid (next_ok h hw hz hc _ rfl)
  obtain ⟨n1, a0, anz⟩ := hasB_true hh
  have H := Lib.hid h
  have hll := hw.len hz
  obtain ⟨v, hv⟩ := h
  have HC := Lib.hid (has_ok z a n b w hv.mv.c0 hz hn)
  rw [hh] at HC
  have hlen : l1.length < l.length := by rw [hc.eq]; simp
  obtain ⟨g, N, cc, rfl, hN, hR⟩ := hv.row (by omega)
  have HV := Lib.hid hv
  have hr := hR.is l1.length hlen
  have hel : l[l1.length] = (cx, cy) := by have := hc.eq; subst this; simp
  rw [hel] at hr
  obtain ⟨s0, s1, s2⟩ : 0 ≤ cx ∧ 1 ≤ cy ∧ cx + cy ≤ z := hw.ok (cx, cy) (by rw [hc.eq]; simp)
  have z1 := hz.2
  generalize hk : l1.length = k at *
  have HP : Hid (∀ (y : Nat → Prop) W, MapIn B y W b z l → ∀ vx, SrcR W vx (btw cx a ++ btw (a + n) (cx + cy)) → Calls Try.prog 26 #[.pointer (some ⟨b, 0, none⟩), .int .i64 (k : Int), .int .i64 ((k : Int) + 1), vx] W fun e w' => e = .returned (.tuple #[]) ∧ MapIn B y w' b z (l1 ++ ((btw cx a ++ btw (a + n) (cx + cy)) ++ q)) ∧ KeptX B y W w') :=
    Lib.hid fun y W hW vx hs => put_ok (p := l1) (m := [(cx, cy)]) (q := q) (by have := hc.eq; rw [this] at hW; exact hW) k (k + 1) hk (by simp) vx hs (fun e => by simp at e) (by have := hc.eq; rw [this] at hll; simp at hll ⊢; omega)
      (by have h1 := btw_len cx a; have h2 := btw_len (a + n) (cx + cy); rw [List.length_append]; omega)
  have hkN : k < N := by omega
  have hkl : k ≤ 65536 := by omega
  have dN : ((k : Int) == (N : Int)) = false := by simp; omega
  have d1 : decide (a < cx) = false := decide_eq_false (by omega)
  have d2 : decide (cx + cy < a + n) = false := decide_eq_false (by omega)
  have HR := Lib.hid hr
  clear hv hh hn hz hw hc hN hR hr hel hk hlen hll
  go_enter Try.func12, Try.ntmps12
  go_wp2_with fail
  refine HC.out.mono ?_
  rintro e w1 ⟨rfl, rfl⟩
  go_wp2_with fail
  refine HN.out.mono ?_
  rintro e w1 ⟨rfl, b1⟩
  have c1 := (HV.out.below b1).mv.c1
  obtain ⟨r0, r1⟩ := (HR.out.kept b1).pair
  have HB := Lib.hid b1
  clear b1
  go_wp2_with fail
  refine (end_ok cx cy _ (by omega) (by omega) (by omega)).mono ?_
  rintro e w2 ⟨rfl, b2⟩
  have b2 := next HB.out b2
  have c2 := (HV.out.below b2).mv.c1
  obtain ⟨r2, r3⟩ := (HR.out.kept b2).pair
  have HB2 := Lib.hid b2
  clear b2
  go_wp2_with fail
  have k0 : (w2.alloc (.cells #[.int .i64 cx, .int .i64 cy] 39)).cell? ⟨w2.heap.size, 0, none⟩ = some (.int .i64 cx) := by simp
  have k1 : (w2.alloc (.cells #[.int .i64 cx, .int .i64 cy] 39)).cell? ⟨w2.heap.size, 1, none⟩ = some (.int .i64 cy) := by simp
  have HB3 := Lib.hid (next HB2.out (boxed w2 (.cells #[.int .i64 cx, .int .i64 cy] 39)))
  have H3 := Lib.hid ((H.out.below HB2.out).since (boxed w2 (.cells #[.int .i64 cx, .int .i64 cy] 39)) (k := w2.heap.size) (Nat.le_refl _) (by simp))
  generalize w2.alloc (.cells #[.int .i64 cx, .int .i64 cy] 39) = w3 at *
  generalize w2.heap.size = bx at *
  have i1 : IntKind.i64.wrap (a + n) = a + n := by rw [IntKind.wrap_i64]; omega
  have i2 : IntKind.i64.wrap ((k : Int) + 1) = (k : Int) + 1 := by rw [IntKind.wrap_i64]; omega
  have hbx : bx < w3.heap.size := World.block_lt_of_cell? w3 _ k0
  have bd : Below w3.heap.size w3 w3.drew := (Below.refl _ w3).drew
  replace k0 : w3.drew.cell? ⟨bx, 0, none⟩ = some (.int .i64 cx) := k0
  replace k1 : w3.drew.cell? ⟨bx, 1, none⟩ = some (.int .i64 cy) := k1
  clear r0 r1 r2 r3 c1 c2 b2
  go_region_held3 (fun W => W.cell? ⟨bx, 0, none⟩ = some (.int .i64 cx) ∧ W.cell? ⟨bx, 1, none⟩ = some (.int .i64 cy))
    (first | exact ⟨k0, k1⟩)
    (first
      | (go_at_call 25; refine (end_ok cx cy _ (by omega) (by omega) (by omega)).mono ?_; rintro e wE ⟨rfl, bE⟩; have k0 := cell_next k0 bE; have k1 := cell_next k1 bE; have bd := next bd bE; (try have h1 := h1.below bE); (try have h2 := h2.below bE))
      | (go_at_call_of 27 (Value.int IntKind.i64 cx); refine (btw_any w3.heap.size cx a _ (by omega) (by omega) (by omega) bd.size).mono ?_; rintro e wE ⟨v1, rfl, h1, bE⟩; have k0 := cell_next k0 bE; have k1 := cell_next k1 bE; have bd := next bd bE; (try have h2 := h2.below bE))
      | (go_at_call_of 27 (Value.int IntKind.i64 (a + n)); refine (btw_any w3.heap.size (a + n) (cx + cy) _ (by omega) (by omega) (by omega) bd.size).mono ?_; rintro e wE ⟨v2, rfl, h2, bE⟩; have k0 := cell_next k0 bE; have k1 := cell_next k1 bE; have bd := next bd bE; (try have h1 := h1.below bE))
      | (go_at_call 26; refine (HP.out (fun j => x j ∨ j = bx) _ (H3.out.below bd) _ h5.r.src).mono ?_; rintro e w9 ⟨rfl, hM, hK⟩; have HM := Lib.hid hM; have HK := Lib.hid hK; have k0 := cell_kept (HK.out.kept bx (.inr rfl)) k0; have k1 := cell_kept (HK.out.kept bx (.inr rfl)) k1; clear hM hK)
      | (have hq2 := h2.r; have hq1 := h1; have hqs := bd.size; obtain ⟨r5, w5, ea, h5, b5⟩ := run_append_two w3.heap.size wE 36 v1 v2 _ _ hq1 hq2 (Nat.le_trans (btw_len _ _) (by omega)) (Nat.le_trans (btw_len _ _) (by omega)) hqs; refine step_append_run (s := Operand.tmp 64) (x := Operand.tmp 70) (t := 36) (v := v1) (xv := v2) rfl ?_ ?_ ?_ _ _ ea ?_; (exact rfl); (exact rfl); (exact rfl); clear ea hq1 hq2 hqs; have k0 := (b5.cell (p := ⟨bx, 0, none⟩) hbx).trans k0; have k1 := (b5.cell (p := ⟨bx, 1, none⟩) hbx).trans k1; have bd := bd.trans b5))
  all_goals
    go_wp2
    go_ret
    exact ⟨rfl, HM.out.only fun _ h => .inl h, (KeptX.of (HB3.out.trans (bd.mono HB3.out.size)) H.out.lt (by obtain ⟨_, h⟩ := H.out; exact h.lx)).trans (HK.out.only fun _ h => .inl h)⟩
end
/-- What Free answers and leaves. -/
def DropR (z a n : Int) (l : List (Int × Int)) (r : Int) (l' : List (Int × Int)) : Prop :=
  (r = 1 ∧ hasB z a n = false ∧ l' = l) ∨ (r = 7 ∧ hasB z a n = true ∧ ¬ FullR l a n ∧ l' = l) ∨ (r = 0 ∧ hasB z a n = true ∧ FullR l a n ∧ Freed z l a n l')
theorem free_any {z : Int} {l : List (Int × Int)} (hw : WF z l) (hz : 0 ≤ z ∧ z ≤ 65536) (a n : Int) (hn : I64 n) :
    ∃ r l', DropR z a n l r l' ∧ ∀ (B : Nat) (x : Nat → Prop) (w : World) (b : Nat), MapIn B x w b z l → Calls Try.prog 12 #[.pointer (some ⟨b, 0, none⟩), .int .i64 a, .int .i64 n] w (Did B x w b z l' r) := by
  cases hh : hasB z a n with
  | false => exact ⟨1, l, .inl ⟨rfl, hh, rfl⟩, fun B x w b h => free_no h hz hn hh⟩
  | true =>
  obtain ⟨n1, a0, anz⟩ := hasB_true hh
  obtain ⟨l1, l2, hc⟩ := hw.cut a
  have hf := hc.full_iff hw n1
  cases l2 with
  | nil => exact ⟨7, l, .inr (.inl ⟨rfl, hh, (fun h => by obtain ⟨_, _, e, _⟩ := hf.1 h; cases e), rfl⟩), fun B x w b h => free_none1 h hw hz hn hh hc⟩
  | cons c q =>
    obtain ⟨cx, cy⟩ := c
    by_cases h1 : cx ≤ a
    · by_cases h2 : a + n ≤ cx + cy
      · exact ⟨0, _, .inr (.inr ⟨rfl, hh, hf.2 ⟨(cx, cy), q, rfl, h1, h2⟩, hc.freeR hw n1 h1 h2⟩), fun B x w b h => free_yes h hw hz hn hh hc h1 h2⟩
      · exact ⟨7, l, .inr (.inl ⟨rfl, hh, (fun h => by obtain ⟨_, _, e, _, h4⟩ := hf.1 h; cases e; exact h2 h4), rfl⟩), fun B x w b h => free_none3 h hw hz hn hh hc h1 (by omega)⟩
    · exact ⟨7, l, .inr (.inl ⟨rfl, hh, (fun h => by obtain ⟨_, _, e, h3, _⟩ := hf.1 h; cases e; exact h1 h3), rfl⟩), fun B x w b h => free_none2 h hw hz hn hh hc (by omega)⟩
end Go.Proofs.Ytoiiaacjpobaeaa
