/-
  vdev.New of a measure that isn't right; Right and Here of no devices; Here.
  The document's Of (polderref06): the same columns.
  slices.Contains of a slice of texts: is one of them nothing?
-/
import Derived.Test.YtiffkbmcikiioaaGreatY32
import Derived.Test.YtiffkbmcikiioaaGreatY11
import Derived.Test.YtiffkbmcikiioaaGreatY13
import Derived.StillTailTactics
import Derived.Test.YtiffkbmcikiioaaGreatY17
import Derived.Test.YtiffkbmcikiioaaGreatY21

/- vdev.New of a measure that isn't right; Right and Here of no devices; Here. -/
namespace Go.Proofs.YtiffkbmcikiioaaGreat
set_option maxRecDepth 100000
open Go.RowKit Go.Maps M

/-- No devices. -/
def noDevs : Value := .agg #[.slice none 0 0, .int .i64 0, .slice none 0 0, .slice none 0 0]
theorem new8_bad (l : List (Int × Int)) (sc : Int) (v : Value) (w : World) (h : Meas w v l sc) (hr : rightL l sc = false) (fill : Int) :
    Calls Tryz.prog 27 #[v, .int .u8 fill] w fun e w' => e = .returned (.tuple #[noDevs, .int .i64 1]) ∧ Below w.heap.size w w' := by
  obtain ⟨a, gn, gc, rfl, hg, hs0, hs1⟩ := id h
  have b1 := boxed w (.cells #[.slice a gn gc, .int .i64 sc] 24)
  have b2 := boxed (w.alloc (.cells #[.slice a gn gc, .int .i64 sc] 24)) (.cells #[.slice none 0 0, .int .i64 0, .slice none 0 0, .slice none 0 0] 37)
  have bb := next b1 b2
  have hres : ((w.alloc (.cells #[.slice a gn gc, .int .i64 sc] 24)).alloc (.cells #[.slice none 0 0, .int .i64 0, .slice none 0 0, .slice none 0 0] 37)).heap[w.heap.size + 1]? = some (.cells #[.slice none 0 0, .int .i64 0, .slice none 0 0, .slice none 0 0] 37) := by
    have := heap_alloc_new (w.alloc (.cells #[.slice a gn gc, .int .i64 sc] 24)) (.cells #[.slice none 0 0, .int .i64 0, .slice none 0 0, .slice none 0 0] 37)
    simpa using this
  have hz2 : ((w.alloc (.cells #[.slice a gn gc, .int .i64 sc] 24)).alloc (.cells #[.slice none 0 0, .int .i64 0, .slice none 0 0, .slice none 0 0] 37)).heap.size = w.heap.size + 2 := by simp
  have HRI := Lib.hid (right_any l sc _ _ (h.below bb) false hr)
  have HBB := Lib.hid bb
  have HRES := Lib.hid hres
  clear h hg b1 b2 bb hr hres
  go_enter Tryz.func27, Tryz.ntmps27
  go_wp2_with fail
  refine HRI.out.mono ?_
  rintro e w3 ⟨rfl, b3⟩
  have hre := (b3.block (w.heap.size + 1) (by omega)).trans HRES.out
  have r0 : w3.cell? ⟨w.heap.size + 1, 0, none⟩ = some (.slice none 0 0) := by simp [World.cell?, hre]
  have r1 : w3.cell? ⟨w.heap.size + 1, 1, none⟩ = some (.int .i64 0) := by simp [World.cell?, hre]
  have r2 : w3.cell? ⟨w.heap.size + 1, 2, none⟩ = some (.slice none 0 0) := by simp [World.cell?, hre]
  have r3 : w3.cell? ⟨w.heap.size + 1, 3, none⟩ = some (.slice none 0 0) := by simp [World.cell?, hre]
  have z0 : w3.frozen? ⟨w.heap.size + 1, 0, none⟩ = false := by simp [World.frozen?, hre]
  have z1 : w3.frozen? ⟨w.heap.size + 1, 1, none⟩ = false := by simp [World.frozen?, hre]
  have z2 : w3.frozen? ⟨w.heap.size + 1, 2, none⟩ = false := by simp [World.frozen?, hre]
  have z3 : w3.frozen? ⟨w.heap.size + 1, 3, none⟩ = false := by simp [World.frozen?, hre]
  have HB3 := Lib.hid (next HBB.out b3)
  have HW := Lib.hid (sets4 (.slice none 0 0) (.int .i64 0) (.slice none 0 0) (.slice none 0 0) hre)
  have HT := Lib.hid (turn4 w3 (w.heap.size + 1) (.slice none 0 0) (.int .i64 0) (.slice none 0 0) (.slice none 0 0))
  clear hre b3
  go_wp2_with fail
  generalize (((w3.setCell ⟨w.heap.size + 1, 0, none⟩ (.slice none 0 0)).setCell ⟨w.heap.size + 1, 1, none⟩ (.int .i64 0)).setCell ⟨w.heap.size + 1, 2, none⟩ (.slice none 0 0)).setCell ⟨w.heap.size + 1, 3, none⟩ (.slice none 0 0) = W at HW HT ⊢
  have hW := HW.out
  have s0 : W.cell? ⟨w.heap.size + 1, 0, none⟩ = some (.slice none 0 0) := by simp [World.cell?, hW]
  have s1 : W.cell? ⟨w.heap.size + 1, 1, none⟩ = some (.int .i64 0) := by simp [World.cell?, hW]
  have s2 : W.cell? ⟨w.heap.size + 1, 2, none⟩ = some (.slice none 0 0) := by simp [World.cell?, hW]
  have s3 : W.cell? ⟨w.heap.size + 1, 3, none⟩ = some (.slice none 0 0) := by simp [World.cell?, hW]
  clear hW
  exact bodyPost_ret (v := .tuple #[noDevs, .int .i64 1]) (by simp [results, Tryz.results27, go_sem, s0, s1, s2, s3, noDevs]) rfl ⟨rfl, HB3.out.trans (HT.out.below (fun k hk => by omega) HB3.out.size)⟩
theorem right8_no (w : World) : Calls Tryz.prog 35 #[noDevs] w fun e w' => e = .returned (.bool false) ∧ Below w.heap.size w w' := by
  have hb := boxed w (.cells #[.slice none 0 0, .int .i64 0, .slice none 0 0, .slice none 0 0] 37)
  have hm : ∀ w : World, Meas w (.agg #[.slice none 0 0, .int .i64 0]) [] 0 := fun w => ⟨none, 0, 0, rfl, ⟨Nat.zero_le _, rfl, fun i hi => absurd hi (Nat.not_lt_zero _)⟩, by decide, by decide⟩
  have HD := Lib.hid (fun w => devs_any [] 0 _ w (hm w) 0 rfl)
  have HB := Lib.hid hb
  clear hm hb
  unfold noDevs
  go_enter Tryz.func35, Tryz.ntmps35
  go_wp2_with fail
  refine (HD.out _).mono ?_
  rintro e w1 ⟨rfl, b1⟩
  go_wp2
  go_ret
  exact ⟨rfl, next HB.out b1⟩
theorem here8_no (d : Int) (w : World) : Calls Tryz.prog 31 #[noDevs, .int .i64 d] w fun e w' => e = .returned (.bool false) ∧ Below w.heap.size w w' := by
  have hb := Lib.hid (boxed w (.cells #[.slice none 0 0, .int .i64 0, .slice none 0 0, .slice none 0 0] 37))
  have HR := Lib.hid (fun w => right8_no w)
  unfold noDevs at HR ⊢
  go_enter Tryz.func31, Tryz.ntmps31
  go_wp2_with fail
  refine (HR.out _).mono ?_
  rintro e w1 ⟨rfl, b1⟩
  go_wp2
  go_ret
  exact ⟨rfl, next hb.out b1⟩
def hereD (ds : Nat → Dv) (aw : Nat → Bool) (n : Nat) (d : Int) : Bool := decide (0 ≤ d) && decide (d < n) && hereB ds aw d.toNat
section
variable {X : Nat → Prop} {B : Nat} {w : World} {x : Px} {l : List (Int × Int)} {ds : Nat → Dv} {aw : Nat → Bool} {K : Nat} {P : World → Prop}
theorem here8_any (h : StX X B w x l ds aw K P) (d : Int) :
    Calls Tryz.prog 31 #[x.val, .int .i64 d] w fun e w' => e = .returned (.bool (hereD ds aw x.n d)) ∧ Below w.heap.size w w' := by
  obtain ⟨_, h32⟩ := h.right.1.devs h.right.2
  have hb := boxed w (.cells #[.slice x.ga x.gn x.gc, .int .i64 x.sc, .slice (some ⟨x.lb, 0, none⟩) x.n x.n, .slice (some ⟨x.ab, 0, none⟩) x.n x.n] 37)
  have H1 := Lib.hid (h.add hb (BoxX.new w x _ (Nat.le_refl _) _))
  have HR := Lib.hid (right8_any H1.out)
  have HB := Lib.hid hb
  clear h hb
  unfold Px.val at HR ⊢
  unfold hereD
  go_enter Tryz.func31, Tryz.ntmps31
  go_wp2_with fail
  refine HR.out.mono ?_
  rintro e w1 ⟨rfl, b1⟩
  have H2 := Lib.hid (H1.out.below b1)
  have HB2 := Lib.hid (next HB.out b1)
  obtain ⟨_, x0, x1, x2, x3⟩ := H2.out.out
  clear b1
  by_cases h0 : 0 ≤ d
  · obtain ⟨k, rfl⟩ := Int.eq_ofNat_of_zero_le h0
    by_cases hk : k < x.n
    · have HH := Lib.hid (here_any H2.out k hk)
      unfold Px.val at HH
      have d1 : decide ((0 : Int) ≤ (k : Int)) = true := by simp
      have d2 : decide ((k : Int) < (x.n : Int)) = true := by simp; omega
      go_wp2_with fail
      refine HH.out.mono ?_
      rintro e w2 ⟨rfl, b2⟩
      go_wp2
      go_ret
      refine ⟨?_, next HB2.out b2⟩
      rw [Int.toNat_natCast, d1, d2]
      rfl
    · have d1 : decide ((0 : Int) ≤ (k : Int)) = true := by simp
      have d2 : decide ((k : Int) < (x.n : Int)) = false := by simp; omega
      go_wp2
      go_ret
      refine ⟨?_, HB2.out⟩
      rw [d1, d2]
      rfl
  · have d1 : decide ((0 : Int) ≤ d) = false := by simpa using h0
    go_wp2
    go_ret
    refine ⟨?_, HB2.out⟩
    rw [d1]
    rfl
end
end Go.Proofs.YtiffkbmcikiioaaGreat

/- The document's Of (polderref06): the same columns. -/
namespace Go.Proofs.YtiffkbmcikiioaaGreat
set_option maxRecDepth 100000
open Go.RowKit

/-- A row begun: k sectors are done, j columns of row r stand. -/
def parMid (f : Int) (t u k r : Nat) : Nat → List C
  | 0 => parTo f t u k
  | 1 => parTo f t u k ++ [colP f u (t + (parTo f t u k).length) r true]
  | j + 2 => parTo f t u (k + (j + 1))
theorem parMid_step (f : Int) (t u k r j : Nat) (hu : 2 ≤ u - 1) (hk : k = r * (u - 1)) (hj : j ≤ u - 1) : parMid f t u k r (j + 1) = parMid f t u k r j ++ [colP f u (t + (parMid f t u k r j).length) r (decide (j = 0))] := by
  have hup : 0 < u - 1 := by omega
  match j, hj with
  | 0, _ => rfl
  | 1, _ =>
    have h1 : k % (u - 1) = 0 := by rw [hk]; exact Nat.mul_mod_left _ _
    have h2 : k / (u - 1) = r := by rw [hk]; exact Nat.mul_div_cancel _ hup
    show parTo f t u (k + 1) = _
    rw [parTo, if_pos h1, h2]
    simp [parMid, Nat.add_assoc]
  | i + 2, hj =>
    have h1 : (k + (i + 1)) % (u - 1) = i + 1 := by rw [hk, Nat.mul_comm, Nat.mul_add_mod, Nat.mod_eq_of_lt (by omega)]
    have h2 : (k + (i + 1)) / (u - 1) = r := by rw [hk, Nat.mul_comm, Nat.mul_add_div hup, Nat.div_eq_of_lt (by omega), Nat.add_zero]
    show parTo f t u (k + (i + 1) + 1) = _
    rw [parTo, if_neg (by omega), h2]
    simp [parMid]
theorem parMid_len (f : Int) (t u k r j : Nat) : (parMid f t u k r j).length ≤ 2 * (k + j) := by
  match j with
  | 0 => exact Nat.le_trans (parTo_len f t u k) (by omega)
  | 1 =>
    have := parTo_len f t u k
    show (parTo f t u k ++ [_]).length ≤ _
    rw [List.length_append]
    simp
    omega
  | i + 2 => exact Nat.le_trans (parTo_len f t u (k + (i + 1))) (by omega)

set_option maxHeartbeats 2000000 in
theorem refOf_mir (l : List (Int × Int)) (s : Int) (v : Value) (w : World) (h : Meas w v l s) (hr : RightM l s) (k : Nat) (hk : k < l.length) (u : Nat) (hu : l[k] = (0, (u : Int))) (t : Int) (t0 : 0 ≤ t) (t1 : t ≤ 4096) (z : Nat) (z4 : z ≤ 4) :
    Calls Tryz.prog 23 #[v, .agg #[.int .i64 (k : Int), .int .i64 t], .int .i64 (z : Int)] w fun e w' => ∃ v', e = .returned v' ∧ OwnC w.heap.size w' v' (mirL (aheadL l k) t u z) ∧ Below w.heap.size w w' := by
  obtain ⟨a, n, c, rfl, hg⟩ := id h
  have hn := hg.1.2.1
  have hn4 : n ≤ 4 := by rw [← hn]; exact hr.few
  have hkn : k < n := by rw [← hn]; exact hk
  obtain ⟨uu1, uu8⟩ : 1 ≤ (u : Int) ∧ (u : Int) ≤ 8 := by have := okG_wide (hr.all k hk); rw [hu] at this; exact this
  have uu8' : u ≤ 8 := by omega
  obtain ⟨f, hf⟩ : ∃ f, aheadL l k = f := ⟨_, rfl⟩
  have hfb := hr.bounds k (Nat.le_of_lt hk)
  rw [hf] at hfb ⊢
  have f0 : 0 ≤ f := by omega
  have f1 : f ≤ 32 := by omega
  have K1 := Lib.hid (HeldP.start (k : Int) t h)
  have HR := Lib.hid hr
  have HL : Hid (∃ hk : k < l.length, l[k] = (0, (u : Int))) := Lib.hid ⟨hk, hu⟩
  have HF := Lib.hid hf
  have c0 := K1.out.h.c0
  have c1 := K1.out.h.c1
  have p0 := K1.out.p0
  obtain ⟨g, o, rfl, hlt, e0, e1⟩ := K1.out.h.at_ HL.out.1 HL.out.2
  dsimp only at e0 e1
  have hb1 := K1.out.h.lt
  have hb2 := K1.out.plt
  clear h hg hr hn hf hfb hu hk
  go_enter Tryz.func23, Tryz.ntmps23
  go_upto_region 2 with (fail)
  generalize (w.alloc (.cells #[.slice (some ⟨g, o, none⟩) n c, .int .i64 s] 24)).alloc (.cells #[.int .i64 (k : Int), .int .i64 t] 26) = W1 at *
  have K2 := Lib.hid (K1.out.next (boxed W1 (.cells #[.int .i64 0, .int .i64 (u : Int)] 53)))
  have hx := Lib.hid (new_pair W1 (.int .i64 0) (.int .i64 (u : Int)) 53)
  have hxs : W1.heap.size < (W1.alloc (.cells #[.int .i64 0, .int .i64 (u : Int)] 53)).heap.size := by simp
  go_wp2_with fail
  refine (refFirst_any l s _ _ K2.out.h.m HR.out k (Nat.le_of_lt HL.out.1) f HF.out).mono ?_
  rintro e w1 ⟨rfl, b1⟩
  have K3 := Lib.hid (K2.out.next b1)
  have hx0 := (b1.cell (p := ⟨W1.heap.size, 0, none⟩) hxs).trans hx.out.1
  have HX1 := Lib.hid ((b1.cell (p := ⟨W1.heap.size, 1, none⟩) hxs).trans hx.out.2)
  have hxl : W1.heap.size < w1.heap.size := Nat.lt_of_lt_of_le hxs b1.size
  have hW : w.heap.size ≤ w1.heap.size := K3.out.h.below.size
  clear c0 c1 p0 e0 e1 hb1 hb2 hlt b1 hx hxs K1 K2
  generalize W1.heap.size = bx at *
  go_wp2_with fail
  go_loopw [7, 10] (fun t8 i wr => ∃ d : Nat, d ≤ u ∧ i = .int .i64 (d : Int) ∧ Hid (OwnC w1.heap.size wr t8 (mirL f t d z)) ∧ Hid (Below w1.heap.size w1 wr)) (fun _ i _ => u - (intOf i).toNat)
  case atStart => exact ⟨0, Nat.zero_le _, rfl, Lib.hid (OwnC.nil _ _), Lib.hid (Below.refl _ _)⟩
  case round =>
    obtain ⟨d, hd, rfl, HO, HB⟩ := hrel
    have x1 := (HB.out.cell (p := ⟨bx, 1, none⟩) hxl).trans HX1.out
    by_cases hdu : d < u
    · go_wp2_with fail
      go_loopw [7, 11] (fun t8 i wr => ∃ j : Nat, j ≤ z ∧ i = .int .i64 (j : Int) ∧ Hid (OwnC w1.heap.size wr t8 (mirL f t d z ++ mirRow f t d j)) ∧ Hid (Below w1.heap.size w1 wr)) (fun _ i _ => z - (intOf i).toNat)
      case atStart => exact ⟨0, Nat.zero_le _, rfl, Lib.hid (by simpa [mirRow] using HO.out), HB⟩
      case round =>
        obtain ⟨j, hj, rfl, HO2, HB2⟩ := hrel
        have K4 := Lib.hid (K3.out.next HB2.out)
        have q1 := K4.out.p1
        by_cases hjz : j < z
        · have hsz := HB2.out.size
          have hlen : Hid ((mirL f t d z ++ mirRow f t d j).length ≤ 100000) := Lib.hid (by
            rw [List.length_append, mirL_len, mirRow_len]
            have : d * z ≤ 8 * 4 := Nat.mul_le_mul (by omega) z4
            omega)
          go_wp2_with (first | (at_builtin; refine wpList_append_col _ rfl _ _ rfl w1.heap.size _ _ ⟨f + d, 16 + t + j, false, j⟩ wr.heap.size 1 rfl rfl (HO2.out.below (boxed _ _)) ⟨by simp, by simp, by simp, by simp⟩ (by simp; omega) hlen.out ?_; intro v3 w3 hown3 hb3 hs3))
          go_roundw
          case rel =>
            refine ⟨j + 1, by omega, by go_num, Lib.hid ?_, Lib.hid ((HB2.out.alloc hsz _).trans hb3)⟩
            rw [mirRow_succ, ← List.append_assoc]
            exact hown3
          case measure => simp [intOf]; omega
        · obtain rfl : j = z := by omega
          go_wp2
          go_roundw
          case rel => exact ⟨d + 1, by omega, by go_num, Lib.hid (by rw [mirL_succ]; exact HO2.out), HB2⟩
          case measure => simp [intOf]; omega
    · obtain rfl : d = u := by omega
      go_wp2
      go_ret
      exact ⟨_, rfl, HO.out.lower hW, next K3.out.h.below HB.out⟩
end Go.Proofs.YtiffkbmcikiioaaGreat

/- slices.Contains of a slice of texts: is one of them nothing? -/
namespace Go.Proofs.YtiffkbmcikiioaaGreat
set_option maxRecDepth 100000
open Go.RowKit M

/-- None of the first k texts is nothing. -/
def fullTo_ (l : List ByteArray) (k : Nat) : Prop := ∀ j (h : j < l.length), j < k → l[j].size ≠ 0
theorem nil_eq (s : ByteArray) : (([] : List UInt8) == s.toList) = decide (s.size = 0) := by
  rw [Bool.eq_iff_iff, beq_iff_eq, decide_eq_true_iff, sizeL, ByteArray.toList_eq]
  constructor
  · intro h; rw [← h]; rfl
  · intro h; exact (List.eq_nil_of_length_eq_zero h).symm

set_option maxHeartbeats 1000000 in
theorem index_nil (G : List ByteArray) (v : Value) (w : World) (hG : Txt w v G) (hm : G.length ≤ 100000) :
    Calls Tryz.prog 71 #[v, .string ⟨#[]⟩] w fun e w' => ∃ i : Int, e = .returned (.int .i64 i) ∧ decide ((0 : Int) ≤ i) = holeL G ∧ w = w' := by
  obtain ⟨aG, cG, rfl, hcc, hj⟩ := hG
  have HJ := Lib.hid hj
  generalize hn : G.length = nG at hm hcc
  have HN := Lib.hid hn
  have hnil : (⟨#[]⟩ : ByteArray).toList = [] := by rw [ByteArray.toList_eq]
  clear hj hn
  go_enter Tryz.func71, Tryz.ntmps71
  go_wp2_with fail
  go_loopw [8] (fun i wr => ∃ k : Nat, k ≤ nG ∧ i = .int .i64 k ∧ Hid (fullTo_ G k) ∧ wr = w) (fun i _ => nG - (intOf i).toNat)
  case atStart => exact ⟨0, Nat.zero_le _, rfl, Lib.hid fun j _ hj => absurd hj (Nat.not_lt_zero _), rfl⟩
  case round =>
    obtain ⟨k, hk, rfl, H, hwr⟩ := hrel
    have hwr' := hwr.symm
    clear hwr
    subst hwr'
    by_cases hlt : k < nG
    · have hlt' : k < G.length := by rw [HN.out]; exact hlt
      obtain ⟨g, o, rfl, hg, hck⟩ := HJ.out k hlt'
      have q1 : (k : Int) < (nG : Int) := by omega
      have q2 : (0 : Int) ≤ (k : Int) := by omega
      generalize hs : G[k] = s at hck
      have HS : Hid (∃ h : k < G.length, G[k] = s) := Lib.hid ⟨hlt', hs⟩
      obtain ⟨b, hb⟩ : ∃ b, (([] : List UInt8) == s.toList) = b := ⟨_, rfl⟩
      have HB := Lib.hid (hb.symm.trans (nil_eq s))
      clear hs hlt'
      cases b with
      | true =>
        go_wp2
        go_ret
        refine ⟨_, rfl, ?_, rfl⟩
        obtain ⟨h1, h2⟩ := HS.out
        have h0 : s.size = 0 := by simpa using HB.out.symm
        have : holeL G = true := by
          unfold holeL
          rw [List.any_eq_true]
          exact ⟨G[k], List.getElem_mem h1, by rw [h2, h0]; rfl⟩
        rw [this]
        simp
      | false =>
        have h0 : s.size ≠ 0 := by simpa using HB.out.symm
        go_wp2
        go_roundw
        case rel =>
          refine ⟨k + 1, by omega, by go_num, Lib.hid fun j hj hjk => ?_, trivial⟩
          by_cases e : j = k
          · subst e
            obtain ⟨_, h2⟩ := HS.out
            rw [h2]; exact h0
          · exact H.out j hj (by omega)
        case measure => simp [intOf]; omega
    · obtain rfl : k = nG := by omega
      go_wp2
      go_ret
      refine ⟨_, rfl, ?_, rfl⟩
      have : holeL G = false := by
        unfold holeL
        rw [List.any_eq_false]
        intro x hx
        obtain ⟨j, hj, rfl⟩ := List.getElem_of_mem hx
        have := H.out j hj (by rw [← HN.out]; exact hj)
        simpa using this
      rw [this]
      rfl
theorem contains_nil (G : List ByteArray) (v : Value) (w : World) (hG : Txt w v G) (hm : G.length ≤ 100000) :
    Calls Tryz.prog 38 #[v, .string ⟨#[]⟩] w fun e w' => e = .returned (.bool (holeL G)) ∧ w = w' := by
  have HI := Lib.hid (index_nil G v w hG hm)
  clear hG
  go_enter Tryz.func38, Tryz.ntmps38
  go_wp2_with fail
  refine HI.out.mono ?_
  rintro e w1 ⟨i, rfl, hb, rfl⟩
  have HB := Lib.hid hb
  obtain ⟨b, hb'⟩ : ∃ b, decide ((0 : Int) ≤ i) = b := ⟨_, rfl⟩
  rw [hb'] at HB
  go_wp2
  go_ret
  exact ⟨by rw [← HB.out]; rfl, rfl⟩
end Go.Proofs.YtiffkbmcikiioaaGreat
