/-
  code.Encode, walked.
-/
import Derived.Test.YtiffkbmcikiioaaGreatY22
import Derived.Test.YtiffkbmcikiioaaGreatY14

/- code.Encode, walked. -/
namespace Go.Proofs.YtiffkbmcikiioaaGreat
set_option maxRecDepth 100000
open Go.RowKit M

theorem rowD_small {L : List C} {f : Nat → ByteArray} {r : Int} {k N : Nat} (hf : ∀ n, (f n).size ≤ N) : ∀ s ∈ rowD L f r k, s.size ≤ N := by
  intro s hs
  obtain ⟨j, _, rfl⟩ := List.mem_map.1 hs
  exact hf _

set_option maxHeartbeats 4000000 in
theorem encode_core (l : List (Int × Int)) (sc : Int) (a : Option Addr) (n0 c0 : Nat) (w : World) (h : Meas w (.agg #[.slice a n0 c0, .int .i64 sc]) l sc) (k t z : Nat) (L : List C) (R : Nat) (hz1 : 1 ≤ z) (hz4 : z ≤ 4) (hL0 : 0 < L.length) (hL : L.length ≤ 32) (hR4 : R ≤ 4)
    (hrow : ∀ j (h : j < L.length), 0 ≤ L[j].row ∧ L[j].row < R) (hlast : ∃ j, ∃ h : j < L.length, L[j].row = (R : Int) - 1) (s : ByteArray) (N : Nat) (hN : s.size = N) (hs : N = z * 64)
    (HO : ∀ w1, Below w.heap.size w w1 → Meas w1 (.agg #[.slice a n0 c0, .int .i64 sc]) l sc → Calls Tryz.prog 45 #[.agg #[.slice a n0 c0, .int .i64 sc], .agg #[.int .i64 (k : Int), .int .i64 (t : Int)], .int .i64 (z : Int)] w1 fun e w' => ∃ v', e = .returned (.tuple #[v', .int .i64 0]) ∧ OwnC w1.heap.size w' v' L ∧ Below w1.heap.size w1 w') :
    Calls Tryz.prog 86 #[.agg #[.slice a n0 c0, .int .i64 sc], .agg #[.int .i64 (k : Int), .int .i64 (t : Int)], .string s] w fun e w' => ∃ v', e = .returned (.tuple #[v', .int .i64 0]) ∧ Own w' w.heap.size v' (encL L fun i => sect s (i % z)) ∧ Below w.heap.size w w' := by
  obtain ⟨f, hf⟩ : ∃ f : Nat → ByteArray, f = fun i => sect s (i % z) := ⟨_, rfl⟩
  rw [← hf]
  have K1 := Lib.hid (HeldP.start k t h)
  have HC := Lib.hid (HO _ K1.out.h.below K1.out.h.m)
  have HS : Hid (s.size = z * 64) := Lib.hid (by rw [hN, hs])
  have hN4 : N ≤ 256 := by omega
  have q1 : (N : Int) % 64 = 0 := by omega
  have q2 : (N : Int) / 64 = (z : Int) := by omega
  have q3 : Int.tmod (N : Int) 64 = 0 := by rw [Int.tmod_eq_emod_of_nonneg (by omega)]; exact q1
  have q4 : Int.tdiv (N : Int) 64 = (z : Int) := by rw [Int.tdiv_eq_ediv_of_nonneg (by omega)]; exact q2
  have HF := Lib.hid hf
  have HROW := Lib.hid hrow
  have HLAST := Lib.hid hlast
  have HFS : Hid (∀ i, (f i).size ≤ 64) := Lib.hid fun i => by
    rw [hf]
    show (sect s (i % z)).size ≤ 64
    rw [sect_size (z := z) (by rw [hN, hs]) (Nat.mod_lt _ hz1)]
    exact Nat.le_refl _
  clear h HO hs hf hrow hlast
  go_enter Tryz.func86, Tryz.ntmps86
  go_wp2_with fail
  refine HC.out.mono ?_
  rintro e w1 ⟨v1, rfl, ho1, b1⟩
  have HB1 : Hid (Below w.heap.size w w1) := Lib.hid (next K1.out.h.below b1)
  have HV := Lib.hid ho1.v
  clear ho1 b1 HC K1
  obtain ⟨g, n, c, rfl, hn, hg, hC⟩ := HV.out.some hL0
  have HCC := Lib.hid hC
  have HN := Lib.hid hn
  rw [hn] at hL0 hL
  clear hC hn
  obtain ⟨w2, hm1, hO2, b2, s2⟩ := make_texts w1 w1.heap.size n (Nat.le_refl _) (by omega)
  have HO2 := Lib.hid hO2
  have HB2 := Lib.hid b2
  clear hO2 b2
  go_wp2_with fail
  refine (rows_any w2 L g n c (Nat.lt_of_lt_of_le hg HB2.out.size) HN.out (by omega) (fun j hj => (HCC.out j hj).below hg HB2.out) R (by omega) HROW.out HLAST.out).mono ?_
  rintro e w3 ⟨rfl, b3⟩
  obtain ⟨w4, hm2, hc4, hf4, b4, s4⟩ := make_rows w3 R (by omega)
  have HE := Lib.hid (Enc.start (Nat.le_refl _) HO2.out s2 b3 hc4 hf4 b4 s4)
  have HBB : Hid (Below w1.heap.size w1 w4) := Lib.hid (HB2.out.trans ((b3.trans (b4.mono b3.size)).mono HB2.out.size))
  have HBR : Hid (w1.heap.size ≤ w3.heap.size) := Lib.hid (Nat.le_trans (Nat.le_of_lt s2) b3.size)
  clear HO2 HB2 b3 hc4 hf4 b4 s4 s2
  go_wp2_with fail
  clear hm1 hm2
  generalize hgt : w1.heap.size = gt at *
  generalize hgr : w3.heap.size = gr at *
  have HGT := Lib.hid hgt
  have HGR := Lib.hid hgr
  clear hgt hgr
  go_loopw [13, 43] (fun t13 i43 wr => ∃ (j d : Nat), j ≤ n ∧ d ≤ j ∧ i43 = .int .i64 (j : Int) ∧ t13 = .int .i64 (d : Int) ∧ Hid (dct L j = d) ∧ Hid (∃ X V, Enc wr gt gt gr n R X V (fun r : Nat => rowD L f (r : Int) j) ∧ Laid1 L f n j X) ∧ Hid (Below gt w1 wr)) (fun _ i _ => n - (intOf i).toNat)
  case atStart => exact ⟨0, 0, Nat.zero_le _, Nat.le_refl _, rfl, rfl, Lib.hid rfl, Lib.hid ⟨_, _, HE.out, laid1_zero L f n⟩, HBB⟩
  case round =>
    obtain ⟨j, d, hj, hdj, rfl, rfl, HD, HX, HW⟩ := hrel
    have hsz := HW.out.size
    rw [HGT.out] at hsz
    by_cases hjn : j < n
    · have hjL : j < L.length := by rw [HN.out]; exact hjn
      obtain ⟨x, hx⟩ : ∃ x, L[j] = x := ⟨_, rfl⟩
      have hCx := (HCC.out j hjL).below hg HW.out
      have hrw := HROW.out j hjL
      have hct := dct_succ hjL
      rw [hx] at hCx hrw hct
      obtain ⟨e0, e1, e2, e3⟩ := hCx
      have HPX : Hid (parAt L j = x.par) := Lib.hid (by rw [parAt_eq hjL, hx])
      have HRX : Hid (rowAt L j = x.row) := Lib.hid (by rw [rowAt_eq hjL, hx])
      obtain ⟨X, V, hE, hX⟩ := HX.out
      have HEr := Lib.hid hE
      have HXr := Lib.hid hX
      clear hx hjL hE hX HX
      obtain ⟨rn, hrn⟩ := Int.eq_ofNat_of_zero_le hrw.1
      rw [hrn] at e3 hrw HRX
      have hrR : rn < R := by omega
      clear hrw
      cases hp : x.par with
      | true =>
        rw [hp] at e2 hct
        have HNX := Lib.hid (rowD_skip L f j (by rw [HPX.out]; exact hp))
        have HPT : Hid (parAt L j = true) := Lib.hid (by rw [HPX.out]; exact hp)
        have HCT : Hid (dct L (j + 1) = d) := Lib.hid (by rw [hct, HD.out]; rfl)
        clear hp hct HPX
        go_wp2
        go_roundw
        case rel => exact ⟨j + 1, d, by omega, by omega, by go_num, rfl, HCT, Lib.hid ⟨X, V, by rw [← HNX.out]; exact HEr.out.next (boxed _ _), laid1_par HXr.out HPT.out⟩, Lib.hid (HW.out.alloc hsz _)⟩
        case measure => simp [intOf]; omega
      | false =>
        rw [hp] at e2 hct
        have HPF : Hid (parAt L j = false) := Lib.hid (by rw [HPX.out]; exact hp)
        have HCT : Hid (dct L (j + 1) = d + 1) := Lib.hid (by rw [hct, HD.out]; rfl)
        obtain ⟨q, hq⟩ : ∃ q : Nat, (d : Int) % (z : Int) = (q : Int) := ⟨d % z, by simp⟩
        have HQ : Hid (d % z = q) := Lib.hid (by have : ((d % z : Nat) : Int) = (q : Int) := by rw [← hq]; simp
                                                 omega)
        have hq8 : (q : Int) < z := by rw [← hq]; exact Int.emod_lt_of_pos _ (by omega)
        have hz0 : ((z : Int) == 0) = false := by simp; omega
        obtain ⟨y, hy⟩ : ∃ y, f (dct L j) = y := ⟨_, rfl⟩
        have HY : Hid (sect s q = y) := Lib.hid (by rw [← hy, HD.out, HF.out, ← HQ.out])
        have HYF := Lib.hid hy
        have bx := boxed wr (.cells #[.int .i64 x.dev, .int .i64 x.at_, .bool false, .int .i64 (rn : Int)] 75)
        have hE1 := HEr.out.next bx
        have hcb : (wr.alloc (.cells #[.int .i64 x.dev, .int .i64 x.at_, .bool false, .int .i64 (rn : Int)] 75)).cell? ⟨wr.heap.size, 3, none⟩ = some (.int .i64 (rn : Int)) := by simp
        have HE1 := Lib.hid hE1
        have HCB := Lib.hid hcb
        clear hp hct HPX hy hE1 hcb
        go_wp2_with fail
        refine (sector_any s q z _ HS.out (by omega) (by omega)).mono ?_
        rintro e w5 ⟨rfl, b5⟩
        rw [HY.out]
        have hE5 := HE1.out.next b5
        have hs5 := b5.size
        rw [World.size_alloc] at hs5
        have hcb := (b5.cell (p := ⟨wr.heap.size, 3, none⟩) (by simp)).trans HCB.out
        obtain ⟨_, ex, _, _, hXl, _, hfz, hcl⟩ := hE5.own.at_ hL0
        cases ex
        have hcj := hcl j (by rw [hXl]; exact hjn)
        generalize X[j]'(by rw [hXl]; exact hjn) = yold at hcj
        have htl := HEr.out.tlt
        have hfj := hfz j hjn
        have hE6 := hE5.text j hjn y
        have hcb6 : (w5.setCell ⟨gt, j, none⟩ (.string y)).cell? ⟨wr.heap.size, 3, none⟩ = some (.int .i64 (rn : Int)) := by
          rw [World.cell?_setCell_other _ _ _ _ (by intro h'; have := congrArg Addr.block h'; dsimp only at this; omega)]; exact hcb
        have hcj6 : (w5.setCell ⟨gt, j, none⟩ (.string y)).cell? ⟨gt, j, none⟩ = some (.string y) := World.cell?_setCell_same _ _ _ hcj
        have HX6 : Hid (Laid1 L f n (j + 1) (X.set j y)) := Lib.hid (by rw [← HYF.out]; exact laid1_data HXr.out HPF.out hjn)
        have HE6 := Lib.hid hE6
        have HW6 : Hid (Below gt w1 (w5.setCell ⟨gt, j, none⟩ (.string y))) := Lib.hid (((HW.out.alloc hsz _).trans (b5.mono (by simp; omega))).setCell (p := ⟨gt, j, none⟩) (Nat.le_refl _) _)
        have HCB6 := Lib.hid hcb6
        have HCJ6 := Lib.hid hcj6
        have hlt6 : wr.heap.size < (w5.setCell ⟨gt, j, none⟩ (.string y)).heap.size := by simp [World.setCell]; omega
        have HVB : Hid (∀ b, (V rn).ownBlock = some b → b < wr.heap.size) := Lib.hid fun b hb => (World.ownsRow.lt (HEr.out.rows rn hrR) b hb).2
        clear hE5 hE6 hcl hfz hXl hcb6 hcj6 hcb b5 hs5 bx
        go_wp2_with fail
        generalize w5.setCell ⟨gt, j, none⟩ (.string y) = w6 at *
        clear hcj hfj
        obtain ⟨va, vn, vc, hVs⟩ : ∃ va vn vc, V rn = .slice va vn vc := by
          rcases (HE6.out.rows rn hrR).2 with ⟨e, _⟩ | ⟨_, _, _, e, _⟩
          · exact ⟨_, _, _, e⟩
          · exact ⟨_, _, _, e⟩
        have S2 := HE6.out.cell rn hrR
        rw [hVs] at S2
        have S1 := HCB6.out
        have S3 := HCJ6.out
        have HVS := Lib.hid hVs
        have hj1 : ((j : Int)).toNat = j := by omega
        have hr1 : ((rn : Int)).toNat = rn := by omega
        clear hVs e0 e1 e2 e3
        refine wp_region_S 15 (fun w' => w'.cell? ⟨wr.heap.size, 3, none⟩ = some (.int .i64 (rn : Int)) ∧ w'.cell? ⟨gr, rn, none⟩ = some (.slice va vn vc) ∧ w'.cell? ⟨gt, j, none⟩ = some (.string y)) (by kernel_rfl) ?_
        have hS : w6.drew.cell? ⟨wr.heap.size, 3, none⟩ = some (.int .i64 (rn : Int)) ∧ w6.drew.cell? ⟨gr, rn, none⟩ = some (.slice va vn vc) ∧ w6.drew.cell? ⟨gt, j, none⟩ = some (.string y) := ⟨S1, S2, S3⟩
        clear S1 S2 S3
        refine wpAnyS_take (i := 0) (.slice (some ⟨gr, 0, none⟩) R R) rfl (by kernel_rfl) (by kernel_rfl) (by kernel_rfl) (by kernel_rfl) (fun _ _ _ h => h) (Or.inl ⟨by rfl, fun w' hw' => ?_⟩) hS ?_
        · (obtain ⟨h1, h2, h3⟩ := hw'; go_simp)
        (try go_frame)
        refine wpAnyS_take (i := 1) (.pointer (some ⟨wr.heap.size, 3, none⟩)) rfl (by kernel_rfl) (by kernel_rfl) (by kernel_rfl) (by kernel_rfl) (fun _ _ _ h => h) (Or.inl ⟨by rfl, fun w' hw' => ?_⟩) hS ?_
        · (obtain ⟨h1, h2, h3⟩ := hw'; go_simp)
        (try go_frame)
        refine wpAnyS_take (i := 2) (.int .i64 (rn : Int)) rfl (by kernel_rfl) (by kernel_rfl) (by kernel_rfl) (by kernel_rfl) (fun _ _ _ h => h) (Or.inl ⟨by rfl, fun w' hw' => ?_⟩) hS ?_
        · (obtain ⟨h1, h2, h3⟩ := hw'; go_simp)
        (try go_frame)
        refine wpAnyS_take (i := 3) (.slice (some ⟨gr, 0, none⟩) R R) rfl (by kernel_rfl) (by kernel_rfl) (by kernel_rfl) (by kernel_rfl) (fun _ _ _ h => h) (Or.inl ⟨by rfl, fun w' hw' => ?_⟩) hS ?_
        · (obtain ⟨h1, h2, h3⟩ := hw'; go_simp)
        (try go_frame)
        refine wpAnyS_take (i := 4) (.pointer (some ⟨wr.heap.size, 3, none⟩)) rfl (by kernel_rfl) (by kernel_rfl) (by kernel_rfl) (by kernel_rfl) (fun _ _ _ h => h) (Or.inl ⟨by rfl, fun w' hw' => ?_⟩) hS ?_
        · (obtain ⟨h1, h2, h3⟩ := hw'; go_simp)
        (try go_frame)
        refine wpAnyS_take (i := 5) (.int .i64 (rn : Int)) rfl (by kernel_rfl) (by kernel_rfl) (by kernel_rfl) (by kernel_rfl) (fun _ _ _ h => h) (Or.inl ⟨by rfl, fun w' hw' => ?_⟩) hS ?_
        · (obtain ⟨h1, h2, h3⟩ := hw'; go_simp)
        (try go_frame)
        refine wpAnyS_take (i := 6) (.pointer (some ⟨gr, rn, none⟩)) rfl (by kernel_rfl) (by kernel_rfl) (by kernel_rfl) (by kernel_rfl) (fun _ _ _ h => h) (Or.inl ⟨by rfl, fun w' hw' => ?_⟩) hS ?_
        · (obtain ⟨h1, h2, h3⟩ := hw'; go_simp)
        (try go_frame)
        refine wpAnyS_take (i := 7) (.slice va vn vc) rfl (by kernel_rfl) (by kernel_rfl) (by kernel_rfl) (by kernel_rfl) (fun _ _ _ h => h) (Or.inl ⟨by rfl, fun w' hw' => ?_⟩) hS ?_
        · (obtain ⟨h1, h2, h3⟩ := hw'; go_simp)
        (try go_frame)
        refine wpAnyS_take (i := 8) (.slice (some ⟨gt, 0, none⟩) n n) rfl (by kernel_rfl) (by kernel_rfl) (by kernel_rfl) (by kernel_rfl) (fun _ _ _ h => h) (Or.inl ⟨by rfl, fun w' hw' => ?_⟩) hS ?_
        · (obtain ⟨h1, h2, h3⟩ := hw'; go_simp)
        (try go_frame)
        refine wpAnyS_take (i := 9) (.int .i64 (j : Int)) rfl (by kernel_rfl) (by kernel_rfl) (by kernel_rfl) (by kernel_rfl) (fun _ _ _ h => h) (Or.inl ⟨by rfl, fun w' hw' => ?_⟩) hS ?_
        · (obtain ⟨h1, h2, h3⟩ := hw'; go_simp)
        (try go_frame)
        refine wpAnyS_take (i := 10) (.pointer (some ⟨gt, j, none⟩)) rfl (by kernel_rfl) (by kernel_rfl) (by kernel_rfl) (by kernel_rfl) (fun _ _ _ h => h) (Or.inl ⟨by rfl, fun w' hw' => ?_⟩) hS ?_
        · (obtain ⟨h1, h2, h3⟩ := hw'; go_simp)
        (try go_frame)
        refine wpAnyS_take (i := 11) (.string y) rfl (by kernel_rfl) (by kernel_rfl) (by kernel_rfl) (by kernel_rfl) (fun _ _ _ h => h) (Or.inl ⟨by rfl, fun w' hw' => ?_⟩) hS ?_
        · (obtain ⟨h1, h2, h3⟩ := hw'; go_simp)
        (try go_frame)
        refine wpAnyS_step (i := 12) (by kernel_rfl) rfl rfl fun K hK => ?_
        go_simp
        have b7 : Below w6.heap.size w6 (w6.alloc (.cells #[.string y] 9)).drew := ((Below.refl _ w6).alloc (Nat.le_refl _) _).drew
        have hE7 := HE6.out.next b7
        have hS7 : (w6.alloc (.cells #[.string y] 9)).drew.cell? ⟨wr.heap.size, 3, none⟩ = some (.int .i64 (rn : Int)) ∧ (w6.alloc (.cells #[.string y] 9)).drew.cell? ⟨gr, rn, none⟩ = some (.slice va vn vc) ∧ (w6.alloc (.cells #[.string y] 9)).drew.cell? ⟨gt, j, none⟩ = some (.string y) :=
          ⟨(b7.cell (p := ⟨wr.heap.size, 3, none⟩) hlt6).trans hS.1, (b7.cell (p := ⟨gr, rn, none⟩) HE6.out.lt).trans hS.2.1, (b7.cell (p := ⟨gt, j, none⟩) HE6.out.tlt).trans hS.2.2⟩
        have HB7 : Hid (Below gt w1 (w6.alloc (.cells #[.string y] 9)).drew) := Lib.hid (HW6.out.trans (b7.mono HE6.out.hB))
        have hnew : (w6.alloc (.cells #[.string y] 9)).drew.cell? ⟨w6.heap.size, 0, none⟩ = some (.string y) := by
          show (w6.alloc (.cells #[.string y] 9)).cell? ⟨w6.heap.size, 0, none⟩ = _
          simp
        refine hK _ _ (fun _ => hS7) ?_
        clear hK hS b7
        (try go_frame)
        generalize hw7 : (w6.alloc (.cells #[.string y] 9)).drew = w7 at *
        have hlt7 : wr.heap.size < w7.heap.size := by rw [← hw7]; show wr.heap.size < (w6.alloc (.cells #[.string y] 9)).heap.size; simp; omega
        clear hw7
        have hrows := hE7.rows rn hrR
        rw [HVS.out] at hrows
        obtain ⟨v8, w8, e8, hO8, hg8, hb8⟩ := app_row w7 gt (.slice va vn vc) _ y w6.heap.size 0 1 hrows hnew hE7.hB (Nat.le_trans (Nat.add_le_add_right (rowD_len L f (rn : Int) j) 1) (by omega)) 60
        have hS8 : w8.cell? ⟨wr.heap.size, 3, none⟩ = some (.int .i64 (rn : Int)) ∧ w8.cell? ⟨gr, rn, none⟩ = some (.slice va vn vc) ∧ w8.cell? ⟨gt, j, none⟩ = some (.string y) := by
          have hne : ∀ b, b = wr.heap.size ∨ b = gr ∨ b = gt → some b ≠ (Value.slice va vn vc).ownBlock := fun b hb e => by
            rw [← HVS.out] at e
            have h1 := HVB.out b e.symm
            have h2 := HE6.out.apart rn hrR b e.symm
            omega
          exact ⟨hg8.cell (a := ⟨wr.heap.size, 3, none⟩) hS7.1 (hne _ (.inl rfl)), hg8.cell (a := ⟨gr, rn, none⟩) hS7.2.1 (hne _ (.inr (.inl rfl))), hg8.cell (a := ⟨gt, j, none⟩) hS7.2.2 (hne _ (.inr (.inr rfl)))⟩
        have hB8 : Below gt w1 w8 := HB7.out.trans ((Below.refl _ w7).grown hg8 hE7.hB fun b hb => (World.ownsRow.lt hrows b hb).1)
        have hfr8 : w8.frozen? ⟨gr, rn, none⟩ = false := by
          rw [World.frozen?_of_block (w := w7) (a := ⟨gr, rn, none⟩) (hg8.block gr hE7.lt fun e => by rw [← HVS.out] at e; exact (hE7.apart rn hrR gr e.symm).2 rfl)]
          exact hE7.frz rn hrR
        have hE9 := hE7.push rn hrR v8 _ (by rw [HVS.out]; exact hg8) hO8 (by rw [HVS.out]; exact hb8)
        have HR9 : Hid ((fun i : Nat => if i = rn then rowD L f (rn : Int) j ++ [y] else rowD L f (i : Int) j) = fun i : Nat => rowD L f (i : Int) (j + 1)) := Lib.hid (by rw [← HYF.out]; exact rowD_push L f j rn HPF.out HRX.out)
        rw [HR9.out] at hE9
        have HE9 := Lib.hid hE9
        obtain ⟨ua, un, uc, hu⟩ : ∃ ua un uc, v8 = .slice ua un uc := by
          rcases hO8.2 with ⟨e, _⟩ | ⟨_, _, _, e, _⟩
          · exact ⟨_, _, _, e⟩
          · exact ⟨_, _, _, e⟩
        subst hu
        clear hE9 hO8 hg8 hb8 hrows hnew hE7 hS7
        refine wpAnyS_step (i := 13) (by kernel_rfl) rfl rfl fun K hK => Lib.wp_append_run _ _ _ _ _ rfl _ _ rfl rfl _ _ e8 ?_
        refine hK _ _ (fun _ => hS8) ?_
        clear hK
        have hS := hS8
        (try go_frame)
        refine wpAnyS_take (i := 14) (.pointer (some ⟨gr, rn, none⟩)) rfl (by kernel_rfl) (by kernel_rfl) (by kernel_rfl) (by kernel_rfl) (fun _ _ _ h => h) (Or.inl ⟨by rfl, fun w' hw' => ?_⟩) hS ?_
        · (obtain ⟨h1, h2, h3⟩ := hw'; go_simp)
        (try go_frame)
        refine wpAnyS_step (i := 15) (by kernel_rfl) rfl rfl fun K hK => ?_
        have hcr := hS8.2.1
        go_simp
        refine hK _ _ (fun h => absurd rfl h) ?_
        clear hK hS hS8 e8 hcr
        have HB9 : Hid (Below gt w1 (w8.setCell ⟨gr, rn, none⟩ (.slice ua un uc))) := Lib.hid (hB8.setCell (p := ⟨gr, rn, none⟩) HBR.out _)
        generalize w8.setCell ⟨gr, rn, none⟩ (.slice ua un uc) = w9 at *
        refine wpAnyS_done (by kernel_rfl) ?_ _
        clear hB8 hfr8
        go_wp2
        go_roundw
        case rel => exact ⟨j + 1, d + 1, by omega, by omega, by go_num, by go_num, HCT, Lib.hid ⟨_, _, HE9.out, HX6.out⟩, HB9⟩
        case measure => simp [intOf]; omega
    · obtain rfl : j = n := by omega
      have HX2 : Hid (∃ X V, Enc wr gt gt gr j R X V (fun r : Nat => rowD L f (r : Int) j) ∧ Laid2 L f j 0 X) := Lib.hid (by
        obtain ⟨X, V, hE, hX⟩ := HX.out
        exact ⟨X, V, hE, laid2_zero hX⟩)
      have HW0 := Lib.hid HW.out
      clear HX HW HE HBB
      go_wp2_with fail
      rename World => w7
      go_loopw [78] (fun i78 wr => ∃ i : Nat, i ≤ j ∧ i78 = .int .i64 (i : Int) ∧ Hid (∃ X V, Enc wr gt gt gr j R X V (fun r : Nat => rowD L f (r : Int) j) ∧ Laid2 L f j i X) ∧ Hid (Below gt w1 wr)) (fun i _ => j - (intOf i).toNat)
      case atStart => exact ⟨0, Nat.zero_le _, rfl, HX2, HW0⟩
      case round =>
        obtain ⟨i, hi, rfl, HX, HW⟩ := hrel
        clear HX2 HW0
        have hsz := HW.out.size
        rw [HGT.out] at hsz
        by_cases hin : i < j
        · have hiL : i < L.length := by rw [HN.out]; exact hin
          obtain ⟨x, hx⟩ : ∃ x, L[i] = x := ⟨_, rfl⟩
          have hCx := (HCC.out i hiL).below hg HW.out
          have hrw := HROW.out i hiL
          rw [hx] at hCx hrw
          obtain ⟨e0, e1, e2, e3⟩ := hCx
          have HPX : Hid (parAt L i = x.par) := Lib.hid (by rw [parAt_eq hiL, hx])
          have HRX : Hid (rowAt L i = x.row) := Lib.hid (by rw [rowAt_eq hiL, hx])
          obtain ⟨X, V, hE, hX⟩ := HX.out
          have HEr := Lib.hid hE
          have HXr := Lib.hid hX
          clear hx hiL hE hX HX
          obtain ⟨rn, hrn⟩ := Int.eq_ofNat_of_zero_le hrw.1
          rw [hrn] at e3 hrw HRX
          have hrR : rn < R := by omega
          clear hrw
          cases hp : x.par with
          | false =>
            rw [hp] at e2
            have HPF : Hid (parAt L i = false) := Lib.hid (by rw [HPX.out]; exact hp)
            clear hp HPX
            go_wp2
            go_roundw
            case rel => exact ⟨i + 1, by omega, by go_num, Lib.hid ⟨X, V, HEr.out.next (boxed _ _), laid2_data HXr.out HPF.out⟩, Lib.hid (HW.out.alloc hsz _)⟩
            case measure => simp [intOf]; omega
          | true =>
            rw [hp] at e2
            obtain ⟨y, hy⟩ : ∃ y, mkB (rowD L f (rn : Int) j) = y := ⟨_, rfl⟩
            have HY : Hid (encAt L f i = y) := Lib.hid (by rw [← hy, encAt, HPX.out, hp, HRX.out, HN.out]; rfl)
            have HYY := Lib.hid hy
            have bx := boxed wr (.cells #[.int .i64 x.dev, .int .i64 x.at_, .bool true, .int .i64 (rn : Int)] 75)
            have hE1 := HEr.out.next bx
            have hrc := hE1.cell rn hrR
            obtain ⟨va, vn, vc, hVs⟩ : ∃ va vn vc, V rn = .slice va vn vc := by
              rcases (HEr.out.rows rn hrR).2 with ⟨e, _⟩ | ⟨_, _, _, e, _⟩
              · exact ⟨_, _, _, e⟩
              · exact ⟨_, _, _, e⟩
            have hrt := (hE1.rows rn hrR).txt
            rw [hVs] at hrc hrt
            have HRT := Lib.hid hrt
            have HE1 := Lib.hid hE1
            clear hp HPX hy hE1 hrt hVs
            go_wp2_with fail
            refine (make_any _ _ _ HRT.out (Nat.le_trans (rowD_len L f (rn : Int) j) (by unfold maxLen; omega)) (fun s' hs' => Nat.le_trans (rowD_small HFS.out s' hs') (by decide))).mono ?_
            rintro e w5 ⟨rfl, b5⟩
            rw [HYY.out]
            have hE5 := HE1.out.next b5
            obtain ⟨_, ex, _, _, hXl, _, hfz, hcl⟩ := hE5.own.at_ (by omega)
            cases ex
            have hcj := hcl i (by rw [hXl]; exact hin)
            generalize X[i]'(by rw [hXl]; exact hin) = yold at hcj
            have hfj := hfz i hin
            have HE6 := Lib.hid (hE5.text i hin y)
            have HX6 : Hid (Laid2 L f j (i + 1) (X.set i y)) := Lib.hid (by rw [← HY.out]; exact laid2_par HXr.out hin)
            have HW6 : Hid (Below gt w1 (w5.setCell ⟨gt, i, none⟩ (.string y))) := Lib.hid (((HW.out.alloc hsz _).trans (b5.mono (by simp; omega))).setCell (p := ⟨gt, i, none⟩) (Nat.le_refl _) _)
            clear hE5 hcl hfz hXl b5 bx hrc
            go_wp2
            go_roundw
            case rel => exact ⟨i + 1, by omega, by go_num, Lib.hid ⟨_, V, HE6.out, HX6.out⟩, HW6⟩
            case measure => simp [intOf]; omega
        · obtain rfl : i = j := by omega
          obtain ⟨X, V, hE, hX⟩ := HX.out
          have HO9 : Hid (Own wr gt (.slice (some ⟨gt, 0, none⟩) i i) (encL L f)) := Lib.hid (by rw [← laid2_all hX HN.out]; exact hE.own)
          clear hE hX HX
          go_wp2
          go_ret2
          have hgw : w.heap.size ≤ gt := by rw [← HGT.out]; exact HB1.out.size
          exact ⟨_, rfl, HO9.out.lower hgw, HB1.out.trans (HW.out.mono hgw)⟩
end Go.Proofs.YtiffkbmcikiioaaGreat
