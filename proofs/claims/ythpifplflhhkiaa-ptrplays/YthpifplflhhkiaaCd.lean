/-
  A block's columns of a Parity: cols.ofParity.
-/
import Derived.Test.YthpifplflhhkiaaCc
import Derived.Deep.DeepCutAuto
import Derived.Deep.RegionWith
namespace Go.Proofs.Ythpifplflhhkiaa
set_option maxRecDepth 100000
open Go.RowKit

/-- The columns of the first k sectors of a block. -/
def parTo (f : Int) (t u : Nat) : Nat → List C
  | 0 => []
  | k + 1 => if k % (u - 1) = 0 then parTo f t u k ++ [colP f u (t + (parTo f t u k).length) (k / (u - 1)) true] ++ [colP f u (t + (parTo f t u k).length + 1) (k / (u - 1)) false]
    else parTo f t u k ++ [colP f u (t + (parTo f t u k).length) (k / (u - 1)) false]
theorem parTo_len (f : Int) (t u k : Nat) : (parTo f t u k).length ≤ 2 * k := by
  induction k with
  | zero => simp [parTo]
  | succ k ih => unfold parTo; split <;> simp <;> omega

theorem grows_alloc {W W' : World} (h : Below W.heap.size W W') (o : Obj) : Below W.heap.size W (W'.alloc o) := h.alloc h.size o
theorem grows_set {W W' : World} (h : Below W.heap.size W W') {b i : Nat} (hb : W.heap.size ≤ b) (v : Value) : Below W.heap.size W (W'.setCell ⟨b, i, none⟩ v) := h.setCell (p := ⟨b, i, none⟩) hb v
theorem sg1 {W : World} {b : Nat} {v x : Value} (h : W.cell? ⟨b, 0, none⟩ = some x) : (W.setCell ⟨b, 0, none⟩ v).cell? ⟨b, 0, none⟩ = some v := World.cell?_setCell_same _ _ _ h
theorem sgo {W : World} {b b' : Nat} {v x : Value} (hne : b' ≠ b) (h : W.cell? ⟨b, 0, none⟩ = some x) : (W.setCell ⟨b', 0, none⟩ v).cell? ⟨b, 0, none⟩ = some x := by
  rw [World.cell?_setCell_other _ _ _ _ (by intro e; injection e with e1 _ _; exact hne (by first | exact e1 | exact e1.symm))]; exact h
theorem sg2 {W : World} {b b' : Nat} {v x y : Value} (hne : b' ≠ b) (h : W.cell? ⟨b, 0, none⟩ = some x) : ((W.setCell ⟨b', 0, none⟩ y).setCell ⟨b, 0, none⟩ v).cell? ⟨b, 0, none⟩ = some v := sg1 (sgo hne h)
theorem sg3 {W : World} {b b' : Nat} {v x y : Value} (hne : b' ≠ b) (h : W.cell? ⟨b, 0, none⟩ = some x) : ((W.setCell ⟨b, 0, none⟩ v).setCell ⟨b', 0, none⟩ y).cell? ⟨b, 0, none⟩ = some v := sgo hne (sg1 h)
theorem sga {W : World} {b : Nat} {v x : Value} {o : Obj} (hb : b < W.heap.size) (h : W.cell? ⟨b, 0, none⟩ = some x) : ((W.setCell ⟨b, 0, none⟩ v).alloc o).cell? ⟨b, 0, none⟩ = some v := by
  rw [(boxed (W.setCell ⟨b, 0, none⟩ v) o).cell (p := ⟨b, 0, none⟩) (by simp [World.setCell]; exact hb)]; exact sg1 h

theorem sgn {W : World} {a : Addr} {v x : Value} {ty : TypeId} : ((W.setCell a v).alloc (.cells #[x] ty)).cell? ⟨W.heap.size, 0, none⟩ = some x := by
  have e : (W.setCell a v).heap.size = W.heap.size := by simp [World.setCell]
  have h : ∀ U : World, (U.alloc (.cells #[x] ty)).cell? ⟨U.heap.size, 0, none⟩ = some x := fun U => by simp
  have h2 := h (W.setCell a v)
  rwa [e] at h2

/-- What the loop keeps: the first device, the next sector's number, the group's width, each in a variable. -/
structure PW (W1 : World) (B bf bx bw : Nat) (f : Int) (u x : Nat) (w : World) : Prop where
  cf : w.cell? ⟨bf, 0, none⟩ = some (.int .i64 f)
  cx : w.cell? ⟨bx, 0, none⟩ = some (.int .i64 (x : Int))
  cw : w.cell? ⟨bw, 0, none⟩ = some (.int .i64 (u : Int))
  fz : w.frozen? ⟨bx, 0, none⟩ = false
  lf : bf < B
  lx : bx < B
  lw : bw < B
  ge : W1.heap.size ≤ bx
  nf : bx ≠ bf
  nw : bx ≠ bw
  sz : B ≤ w.heap.size
  le : W1.heap.size ≤ B
  bel : Below W1.heap.size W1 w
theorem PW.keep {W1 : World} {B bf bx bw : Nat} {f : Int} {u x : Nat} {w w' : World} (h : PW W1 B bf bx bw f u x w) (hb : Below B w w') : PW W1 B bf bx bw f u x w' :=
  ⟨by rw [hb.cell (p := ⟨bf, 0, none⟩) h.lf]; exact h.cf, by rw [hb.cell (p := ⟨bx, 0, none⟩) h.lx]; exact h.cx, by rw [hb.cell (p := ⟨bw, 0, none⟩) h.lw]; exact h.cw, by rw [hb.frozen (p := ⟨bx, 0, none⟩) h.lx]; exact h.fz,
    h.lf, h.lx, h.lw, h.ge, h.nf, h.nw, Nat.le_trans h.sz hb.size, h.le, h.bel.trans (hb.mono h.le)⟩
theorem PW.step {W1 : World} {B bf bx bw : Nat} {f : Int} {u x : Nat} {w w' : World} (h : PW W1 B bf bx bw f u x w) (hb : Below w.heap.size (w.setCell ⟨bx, 0, none⟩ (.int .i64 ((x + 1 : Nat) : Int))) w') : PW W1 B bf bx bw f u (x + 1) w' := by
  have hsz : (w.setCell ⟨bx, 0, none⟩ (.int .i64 ((x + 1 : Nat) : Int))).heap.size = w.heap.size := by simp [World.setCell]
  have hs : PW W1 B bf bx bw f u (x + 1) (w.setCell ⟨bx, 0, none⟩ (.int .i64 ((x + 1 : Nat) : Int))) :=
    ⟨sgo h.nf h.cf, sg1 h.cx, sgo h.nw h.cw, by rw [World.frozen?_setCell]; exact h.fz, h.lf, h.lx, h.lw, h.ge, h.nf, h.nw, by rw [hsz]; exact h.sz, h.le, grows_set h.bel h.ge _⟩
  exact hs.keep (hb.mono h.sz)
theorem PW.own {W1 : World} {B bf bx bw : Nat} {f : Int} {u x : Nat} {w w' : World} (h : PW W1 B bf bx bw f u x w) {y : Value} (hb : Below w.heap.size (w.setCell ⟨bx, 0, none⟩ y) w') {v : Value} {l : List C} (ho : OwnC B w v l) : OwnC B w' v l := by
  have hsz : (w.setCell ⟨bx, 0, none⟩ y).heap.size = w.heap.size := by simp [World.setCell]
  exact OwnC.below (ownsRow_setCell_below ho (a := ⟨bx, 0, none⟩) h.lx y) (by rw [hsz]; exact hb)

theorem PW.call {W1 : World} {B bf bx bw : Nat} {f : Int} {u x : Nat} {w : World} (h : PW W1 B bf bx bw f u x w) (f0 : 0 ≤ f) (f1 : f ≤ 32) (x1 : x ≤ 100000) (u3 : 3 ≤ u) (u8 : u ≤ 8) (r : Nat) (p : Bool) (c : C) (hc : colP f u x r p = c) :
    Calls Try.prog 62 #[.int .i64 (r : Int), .bool p, .pointer (some ⟨bf, 0, none⟩), .pointer (some ⟨bx, 0, none⟩), .pointer (some ⟨bw, 0, none⟩)] w fun e w' =>
      e = .returned (.agg #[.int .i64 c.dev, .int .i64 c.at_, .bool c.par, .int .i64 c.row]) ∧ PW W1 B bf bx bw f u (x + 1) w' ∧ ∀ v l, OwnC B w v l → OwnC B w' v l :=
  (next_any w bf bx bw f x u r p h.cf h.cx h.cw (Nat.lt_of_lt_of_le h.lf h.sz) (Nat.lt_of_lt_of_le h.lx h.sz) (Nat.lt_of_lt_of_le h.lw h.sz) h.fz f0 f1 x1 u3 u8 c hc).mono fun _ _ ⟨h1, h2⟩ => ⟨h1, h.step h2, fun _ _ ho => h.own h2 ho⟩

set_option maxHeartbeats 2000000 in
theorem parity_any (l : List (Int × Int)) (s : Int) (v : Value) (w : World) (h : Meas w v l s) (hr : RightM l s) (k : Nat) (hk : k < l.length) (u : Nat) (hu : l[k] = (1, (u : Int))) (t : Nat) (t1 : t ≤ 40000) (z : Nat) (z4 : z ≤ 4) :
    Calls Try.prog 54 #[v, .agg #[.int .i64 (k : Int), .int .i64 (t : Int)], .int .i64 (z : Int)] w fun e w' => ∃ v', e = .returned v' ∧ OwnC w.heap.size w' v' (parTo (aheadL l k) t u z) ∧ Below w.heap.size w w' := by
  obtain ⟨a, n, c, rfl, hg⟩ := id h
  have hn := hg.1.2.1
  have hn4 : n ≤ 4 := by rw [← hn]; exact hr.few
  have hkn : k < n := by rw [← hn]; exact hk
  obtain ⟨uu1, uu8⟩ : 3 ≤ u ∧ u ≤ 8 := by
    have := hr.all k hk
    rw [hu] at this
    rcases okG_cases this with ⟨h1, _⟩ | ⟨_, h1, h2⟩
    · omega
    · omega
  obtain ⟨f, hf⟩ : ∃ f, aheadL l k = f := ⟨_, rfl⟩
  have hfb := hr.bounds k (Nat.le_of_lt hk)
  rw [hf] at hfb ⊢
  have f0 : 0 ≤ f := by omega
  have f1 : f ≤ 32 := by omega
  have K1 := Lib.hid (HeldP.start (k : Int) (t : Int) h)
  have HR := Lib.hid hr
  have HL : Hid (∃ hk : k < l.length, l[k] = (1, (u : Int))) := Lib.hid ⟨hk, hu⟩
  have HF : Hid (firstL l s (k : Int) = f) := Lib.hid (by unfold firstL; rw [hasL_iff.2 ⟨hr, k, rfl, hk⟩, if_pos rfl, ← hf]; simp)
  have HI : Hid (-9223372036854775808 ≤ (k : Int) ∧ (k : Int) ≤ 9223372036854775807) := Lib.hid (by omega)
  clear h hg hr hn hf hfb hu hk
  go_enter Try.func54, Try.ntmps54
  go_upto_region 1 with (fail)
  generalize hW1 : (w.alloc (.cells #[.slice a n c, .int .i64 s] 41)).alloc (.cells #[.int .i64 (k : Int), .int .i64 (t : Int)] 23) = W1 at K1
  clear hW1
  obtain ⟨g, o, rfl, hlt, e0, e1⟩ := K1.out.h.at_ HL.out.1 HL.out.2
  dsimp only at e0 e1
  have c0 := K1.out.h.c0
  have c1 := K1.out.h.c1
  have p0 := K1.out.p0
  have hb1 := K1.out.h.lt
  have hb2 := K1.out.plt
  go_cut [7, 8] (fun s7 s8 wc => ∃ bf bw, s7 = .pointer (some ⟨bf, 0, none⟩) ∧ s8 = .pointer (some ⟨bw, 0, none⟩) ∧ wc.cell? ⟨bf, 0, none⟩ = some (.int .i64 f) ∧ wc.cell? ⟨bw, 0, none⟩ = some (.int .i64 (u : Int)) ∧ bf < wc.heap.size ∧ bw < wc.heap.size ∧ W1.heap.size ≤ bf ∧ W1.heap.size ≤ bw ∧ Below W1.heap.size W1 wc)
  case first =>
    have hS0 : Below W1.heap.size W1 W1.drew := (Below.refl _ W1).drew
    have HA : Hid (∀ W : World, Below W1.heap.size W1 W → W.cell? ⟨w.heap.size, 0, none⟩ = some (.slice (some ⟨g, o, none⟩) n c) ∧ W.cell? ⟨w.heap.size, 1, none⟩ = some (.int .i64 s) ∧ W.cell? ⟨w.heap.size + 1, 0, none⟩ = some (.int .i64 (k : Int)) ∧ W.cell? ⟨g, o + k * 2 + 1, none⟩ = some (.int .i64 (u : Int)) ∧ Below W1.heap.size W1 W) := Lib.hid fun W hb =>
      ⟨by rw [hb.cell (p := ⟨w.heap.size, 0, none⟩) hb1]; exact c0, by rw [hb.cell (p := ⟨w.heap.size, 1, none⟩) hb1]; exact c1, by rw [hb.cell (p := ⟨w.heap.size + 1, 0, none⟩) hb2]; exact p0, by rw [hb.cell (p := ⟨g, o + k * 2 + 1, none⟩) hlt]; exact e1, hb⟩
    have HC : Hid (∀ W : World, (W.cell? ⟨w.heap.size, 0, none⟩ = some (.slice (some ⟨g, o, none⟩) n c) ∧ W.cell? ⟨w.heap.size, 1, none⟩ = some (.int .i64 s) ∧ W.cell? ⟨w.heap.size + 1, 0, none⟩ = some (.int .i64 (k : Int)) ∧ W.cell? ⟨g, o + k * 2 + 1, none⟩ = some (.int .i64 (u : Int)) ∧ Below W1.heap.size W1 W) → Calls Try.prog 61 #[.agg #[.slice (some ⟨g, o, none⟩) n c, .int .i64 s], .int .i64 (k : Int)] W fun e w' => e = .returned (.int .i64 f) ∧ Below W.heap.size W w' ∧ Below W1.heap.size W1 w') := Lib.hid fun W ⟨_, _, _, _, hb⟩ =>
      (first_any l s _ _ (K1.out.next hb).h.m (k : Int) HI.out f HF.out).mono fun e w' ⟨h1, h2⟩ => ⟨h1, h2, next hb h2⟩
    go_region_held3 (fun W => W.cell? ⟨w.heap.size, 0, none⟩ = some (.slice (some ⟨g, o, none⟩) n c) ∧ W.cell? ⟨w.heap.size, 1, none⟩ = some (.int .i64 s) ∧ W.cell? ⟨w.heap.size + 1, 0, none⟩ = some (.int .i64 (k : Int)) ∧ W.cell? ⟨g, o + k * 2 + 1, none⟩ = some (.int .i64 (u : Int)) ∧ Below W1.heap.size W1 W)
      ((refine HA.out _ ?_; repeat (first | with_reducible exact hS0 | with_reducible exact bw1 | with_reducible exact Below.refl _ _ | with_reducible refine grows_alloc ?_ _ | with_reducible refine grows_set ?_ (by omega) _ | with_reducible refine Below.drew ?_)))
      (first
      | (go_at_call 61; refine (HC.out _ ?_).mono ?_; assumption; rintro e w1 ⟨rfl, b1, bw1⟩; have bz1 := b1.size;
         (have q1 := @Below.cell _ _ _ b1 ⟨W1.heap.size, 0, none⟩); (have q2 := @Below.cell _ _ _ b1 ⟨W1.heap.size + 1, 0, none⟩); (have q3 := @Below.frozen _ _ _ b1 ⟨W1.heap.size, 0, none⟩); (have q4 := @Below.frozen _ _ _ b1 ⟨W1.heap.size + 1, 0, none⟩); (try simp at q1); (try simp at q2); (try simp at q3); (try simp at q4); (try have q1 := q1 (by omega)); (try have q2 := q2 (by omega)); (try have q3 := q3 (by omega)); (try have q4 := q4 (by omega)); (try simp at bz1); (try have bz2 : W1.heap.size < w1.heap.size := by omega); (try have bz3 : W1.heap.size + 1 < w1.heap.size := by omega)))
    all_goals
      go_wp2_with fail
      go_meet
      refine ⟨_, _, rfl, rfl, ?_, ?_, ?_, ?_, ?_, ?_, ?_⟩
      · first | (simp; done) | with_reducible exact sg1 q1 | with_reducible exact sg1 q2 | with_reducible exact sg2 (by omega) q1 | with_reducible exact sg2 (by omega) q2 | with_reducible exact sg3 (by omega) q1 | with_reducible exact sg3 (by omega) q2 | with_reducible exact sga (by omega) q1 | with_reducible exact sgn
      · first | (simp; done) | with_reducible exact sg1 q1 | with_reducible exact sg1 q2 | with_reducible exact sg2 (by omega) q1 | with_reducible exact sg2 (by omega) q2 | with_reducible exact sg3 (by omega) q1 | with_reducible exact sg3 (by omega) q2 | with_reducible exact sga (by omega) q1 | with_reducible exact sgn
      · first | (simp; done) | (simp [World.setCell]; omega)
      · first | (simp; done) | (simp [World.setCell]; omega)
      · omega
      · omega
      · repeat (first | with_reducible exact hS0 | with_reducible exact bw1 | with_reducible exact Below.refl _ _ | with_reducible refine grows_alloc ?_ _ | with_reducible refine grows_set ?_ (by omega) _ | with_reducible refine Below.drew ?_)
  case rest =>
    obtain ⟨bf, bw, rfl, rfl, cf, cw, lf, lw, gf, gw, hbc⟩ := hcut
    have K2 := Lib.hid (K1.out.next hbc)
    have q1 := K2.out.p1
    have q2 := K2.out.plt
    go_upto_region 4 with (fail)
    have hP : PW W1 (wc.heap.size + 1) bf wc.heap.size bw f u t (wc.alloc (.cells #[.int .i64 (t : Int)] 3)) :=
      ⟨by rw [(boxed wc _).cell (p := ⟨bf, 0, none⟩) lf]; exact cf, by simp, by rw [(boxed wc _).cell (p := ⟨bw, 0, none⟩) lw]; exact cw, by simp, by omega, by omega, by omega, hbc.size, by omega, by omega, by simp, by have := hbc.size; omega, grows_alloc hbc _⟩
    have HP := Lib.hid hP
    have HS : Hid ((wc.alloc (.cells #[.int .i64 (t : Int)] 3)).heap.size = wc.heap.size + 1) := Lib.hid (by simp)
    have HBZ := Lib.hid hbc.size
    generalize wc.alloc (.cells #[.int .i64 (t : Int)] 3) = W2 at *
    generalize wc.heap.size = bx at *
    have hbel := K1.out.h.below
    have HW := Lib.hid hbel
    clear hbel hP hbc q1 q2 cf cw lf lw gf gw K2 hlt e0 e1 c0 c1 p0 hb1 hb2
    obtain ⟨p, hp⟩ : ∃ p : Nat, (u : Int) - 1 = (p : Int) := ⟨u - 1, by omega⟩
    have HPu : Hid (u - 1 = p) := Lib.hid (by omega)
    have p2 : 2 ≤ p := by omega
    have p7 : p ≤ 7 := by omega
    go_wp2_with fail
    go_loopw [11, 29] (fun t11 i wr => ∃ j x : Nat, j ≤ z ∧ x ≤ 50000 ∧ i = .int .i64 (j : Int) ∧ Hid (x = t + (parTo f t u j).length) ∧ Hid (OwnC (bx + 1) wr t11 (parTo f t u j)) ∧ Hid (PW W1 (bx + 1) bf bx bw f u x wr)) (fun _ i _ => z - (intOf i).toNat)
    case atStart => exact ⟨0, t, Nat.zero_le _, by omega, rfl, Lib.hid rfl, Lib.hid (OwnC.nil _ _), HP⟩
    case round =>
      obtain ⟨j, x, hj, hx, rfl, HX, HO, HW2⟩ := hrel
      by_cases hjz : j < z
      · have cw := HW2.out.cw
        have lw := HW2.out.lw
        have HLen : Hid ((parTo f t u j).length ≤ 8) := Lib.hid (by have := parTo_len f t u j; omega)
        obtain ⟨r, hr⟩ : ∃ r : Nat, (j : Int) / (p : Int) = (r : Int) := ⟨j / p, by simp⟩
        obtain ⟨m, hm⟩ : ∃ m : Nat, (j : Int) % (p : Int) = (m : Int) := ⟨j % p, by simp⟩
        have HRR : Hid (j / (u - 1) = r) := Lib.hid (by rw [HPu.out]; have : ((j / p : Nat) : Int) = (r : Int) := by rw [← hr]; simp
                                                        omega)
        have HMM : Hid (j % (u - 1) = m) := Lib.hid (by rw [HPu.out]; have : ((j % p : Nat) : Int) = (m : Int) := by rw [← hm]; simp
                                                        omega)
        have r4 : r ≤ 4 := by have h1 := HRR.out; have h2 := Nat.div_le_self j (u - 1); omega
        by_cases hm0 : m = 0
        · subst hm0
          obtain ⟨c1, hc1⟩ : ∃ c1, colP f u x r true = c1 := ⟨_, rfl⟩
          obtain ⟨c2, hc2⟩ : ∃ c2, colP f u (x + 1) r false = c2 := ⟨_, rfl⟩
          have HC1 := Lib.hid hc1
          have HC2 := Lib.hid hc2
          clear hc1 hc2
          have HN : Hid (parTo f t u (j + 1) = (parTo f t u j ++ [c1]) ++ [c2]) := Lib.hid (by rw [parTo, if_pos HMM.out, HRR.out, ← HX.out, HC1.out, HC2.out])
          go_wp2_with fail
          refine (HW2.out.call f0 f1 (by omega) uu1 uu8 r true c1 HC1.out).mono ?_
          rintro e w3 ⟨rfl, hP3, ho3⟩
          have HP3 := Lib.hid hP3
          have HO3 := Lib.hid (ho3 _ _ HO.out)
          have sz3 := hP3.sz
          clear hP3 ho3 cw lw
          go_wp2_with (first | (at_builtin; refine wpList_append_col _ rfl _ _ rfl (bx + 1) _ _ c1 w3.heap.size 1 rfl rfl (HO3.out.below (boxed _ _)) ⟨by simp, by simp, by simp, by simp⟩ (by simp; omega) (Nat.le_trans HLen.out (by omega)) ?_; intro v4 w4 hown4 hb4 hs4) | fail)
          have hP4 := HP3.out.keep ((Below.refl _ w3).alloc sz3 (.cells #[.int .i64 c1.dev, .int .i64 c1.at_, .bool c1.par, .int .i64 c1.row] 107))
          have HP4 := Lib.hid (hP4.keep hb4)
          have HO4 := Lib.hid hown4
          clear hP4 hb4 hown4 hs4
          refine (HP4.out.call f0 f1 (by omega) uu1 uu8 r false c2 HC2.out).mono ?_
          rintro e w5 ⟨rfl, hP5, ho5⟩
          have HP5 := Lib.hid hP5
          have HO5 := Lib.hid (ho5 _ _ HO4.out)
          have sz5 := hP5.sz
          clear hP5 ho5
          go_wp2_with (first | (at_builtin; refine wpList_append_col _ rfl _ _ rfl (bx + 1) _ _ c2 w5.heap.size 1 rfl rfl (HO5.out.below (boxed _ _)) ⟨by simp, by simp, by simp, by simp⟩ (by simp; omega) (by have := HLen.out; simp; omega) ?_; intro v6 w6 hown6 hb6 hs6) | fail)
          have hP6 := HP5.out.keep ((Below.refl _ w5).alloc sz5 (.cells #[.int .i64 c2.dev, .int .i64 c2.at_, .bool c2.par, .int .i64 c2.row] 107))
          have HP6 := Lib.hid (hP6.keep hb6)
          have HO6 := Lib.hid hown6
          clear hP6 hb6 hown6 hs6
          go_roundw
          case rel =>
            refine ⟨j + 1, x + 1 + 1, by omega, ?_, by go_num, Lib.hid ?_, Lib.hid ?_, HP6⟩
            · have := HLen.out; have := HX.out; omega
            · rw [HN.out, List.length_append, List.length_append, HX.out]; rfl
            · rw [HN.out]; exact HO6.out
          case measure => simp [intOf]; omega
        · have hm1 : ((m : Int) == 0) = false := by simp [hm0]
          obtain ⟨c2, hc2⟩ : ∃ c2, colP f u x r false = c2 := ⟨_, rfl⟩
          have HC2 := Lib.hid hc2
          clear hc2
          have HN : Hid (parTo f t u (j + 1) = parTo f t u j ++ [c2]) := Lib.hid (by rw [parTo, if_neg (by rw [HMM.out]; exact hm0), HRR.out, ← HX.out, HC2.out])
          go_wp2_with fail
          refine (HW2.out.call f0 f1 (by omega) uu1 uu8 r false c2 HC2.out).mono ?_
          rintro e w5 ⟨rfl, hP5, ho5⟩
          have HP5 := Lib.hid hP5
          have HO5 := Lib.hid (ho5 _ _ HO.out)
          have sz5 := hP5.sz
          clear hP5 ho5 cw lw
          go_wp2_with (first | (at_builtin; refine wpList_append_col _ rfl _ _ rfl (bx + 1) _ _ c2 w5.heap.size 1 rfl rfl (HO5.out.below (boxed _ _)) ⟨by simp, by simp, by simp, by simp⟩ (by simp; omega) (by have := HLen.out; simp; omega) ?_; intro v6 w6 hown6 hb6 hs6) | fail)
          have hP6 := HP5.out.keep ((Below.refl _ w5).alloc sz5 (.cells #[.int .i64 c2.dev, .int .i64 c2.at_, .bool c2.par, .int .i64 c2.row] 107))
          have HP6 := Lib.hid (hP6.keep hb6)
          have HO6 := Lib.hid hown6
          clear hP6 hb6 hown6 hs6
          go_roundw
          case rel =>
            refine ⟨j + 1, x + 1, by omega, ?_, by go_num, Lib.hid ?_, Lib.hid ?_, HP6⟩
            · have := HLen.out; have := HX.out; omega
            · rw [HN.out, List.length_append, HX.out]; rfl
            · rw [HN.out]; exact HO6.out
          case measure => simp [intOf]; omega
      · obtain rfl : j = z := by omega
        go_wp2
        go_ret
        exact ⟨_, rfl, HO.out.lower (by have := HW.out.size; have := HBZ.out; omega), next HW.out HW2.out.bel⟩
end Go.Proofs.Ythpifplflhhkiaa
