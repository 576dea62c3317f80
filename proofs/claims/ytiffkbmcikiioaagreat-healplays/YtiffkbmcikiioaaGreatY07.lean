/-
  A block's columns of a Parity: cols.ofParity.
  A block's columns: cols.Of.
  Columns compared: the document's Same; the example.
  slices.DeleteFunc of columns: the parities are left out.
-/
import Derived.Test.YtiffkbmcikiioaaGreatY05
import Derived.Deep.DeepCutAuto
import Derived.Deep.RegionWith
import Derived.Test.YtiffkbmcikiioaaGreatY06
import Derived.Lib.SliceRun

/- A block's columns of a Parity: cols.ofParity. -/
namespace Go.Proofs.YtiffkbmcikiioaaGreat
set_option maxRecDepth 100000
open Go.RowKit

/-- The columns of the first k sectors of a block. -/
def parTo (f : Int) (t u : Nat) : Nat → List C
  | 0 => []
  | k + 1 => if k % (u - 1) = 0 then parTo f t u k ++ [colP f u (t + (parTo f t u k).length) (k / (u - 1)) true] ++ [colP f u (t + (parTo f t u k).length + 1) (k / (u - 1)) false]
    else parTo f t u k ++ [colP f u (t + (parTo f t u k).length) (k / (u - 1)) false]
theorem parTo_len (f : Int) (t u k : Nat) : (parTo f t u k).length ≤ 2 * k := by
  induction k with
  | zero => simp [parTo]
  | succ k ih => unfold parTo; split <;> simp <;> omega

theorem grows_alloc {W W' : World} (h : Below W.heap.size W W') (o : Obj) : Below W.heap.size W (W'.alloc o) := h.alloc h.size o
theorem grows_set {W W' : World} (h : Below W.heap.size W W') {b i : Nat} (hb : W.heap.size ≤ b) (v : Value) : Below W.heap.size W (W'.setCell ⟨b, i, none⟩ v) := h.setCell (p := ⟨b, i, none⟩) hb v
theorem sg1 {W : World} {b : Nat} {v x : Value} (h : W.cell? ⟨b, 0, none⟩ = some x) : (W.setCell ⟨b, 0, none⟩ v).cell? ⟨b, 0, none⟩ = some v := World.cell?_setCell_same _ _ _ h
theorem sgo {W : World} {b b' : Nat} {v x : Value} (hne : b' ≠ b) (h : W.cell? ⟨b, 0, none⟩ = some x) : (W.setCell ⟨b', 0, none⟩ v).cell? ⟨b, 0, none⟩ = some x := by
  rw [World.cell?_setCell_other _ _ _ _ (by intro e; injection e with e1 _ _; exact hne (by first | exact e1 | exact e1.symm))]; exact h
theorem sg2 {W : World} {b b' : Nat} {v x y : Value} (hne : b' ≠ b) (h : W.cell? ⟨b, 0, none⟩ = some x) : ((W.setCell ⟨b', 0, none⟩ y).setCell ⟨b, 0, none⟩ v).cell? ⟨b, 0, none⟩ = some v := sg1 (sgo hne h)
theorem sg3 {W : World} {b b' : Nat} {v x y : Value} (hne : b' ≠ b) (h : W.cell? ⟨b, 0, none⟩ = some x) : ((W.setCell ⟨b, 0, none⟩ v).setCell ⟨b', 0, none⟩ y).cell? ⟨b, 0, none⟩ = some v := sgo hne (sg1 h)
theorem sga {W : World} {b : Nat} {v x : Value} {o : Obj} (hb : b < W.heap.size) (h : W.cell? ⟨b, 0, none⟩ = some x) : ((W.setCell ⟨b, 0, none⟩ v).alloc o).cell? ⟨b, 0, none⟩ = some v := by
  rw [(boxed (W.setCell ⟨b, 0, none⟩ v) o).cell (p := ⟨b, 0, none⟩) (by simp [World.setCell]; exact hb)]; exact sg1 h

theorem sgn {W : World} {a : Addr} {v x : Value} {ty : TypeId} : ((W.setCell a v).alloc (.cells #[x] ty)).cell? ⟨W.heap.size, 0, none⟩ = some x := by
  have e : (W.setCell a v).heap.size = W.heap.size := by simp [World.setCell]
  have h : ∀ U : World, (U.alloc (.cells #[x] ty)).cell? ⟨U.heap.size, 0, none⟩ = some x := fun U => by simp
  have h2 := h (W.setCell a v)
  rwa [e] at h2

/-- What the loop keeps: the first device, the next sector's number, the group's width, each in a variable. -/
structure PW (W1 : World) (B bf bx bw : Nat) (f : Int) (u x : Nat) (w : World) : Prop where
  cf : w.cell? ⟨bf, 0, none⟩ = some (.int .i64 f)
  cx : w.cell? ⟨bx, 0, none⟩ = some (.int .i64 (x : Int))
  cw : w.cell? ⟨bw, 0, none⟩ = some (.int .i64 (u : Int))
  fz : w.frozen? ⟨bx, 0, none⟩ = false
  lf : bf < B
  lx : bx < B
  lw : bw < B
  ge : W1.heap.size ≤ bx
  nf : bx ≠ bf
  nw : bx ≠ bw
  sz : B ≤ w.heap.size
  le : W1.heap.size ≤ B
  bel : Below W1.heap.size W1 w
theorem PW.keep {W1 : World} {B bf bx bw : Nat} {f : Int} {u x : Nat} {w w' : World} (h : PW W1 B bf bx bw f u x w) (hb : Below B w w') : PW W1 B bf bx bw f u x w' :=
  ⟨by rw [hb.cell (p := ⟨bf, 0, none⟩) h.lf]; exact h.cf, by rw [hb.cell (p := ⟨bx, 0, none⟩) h.lx]; exact h.cx, by rw [hb.cell (p := ⟨bw, 0, none⟩) h.lw]; exact h.cw, by rw [hb.frozen (p := ⟨bx, 0, none⟩) h.lx]; exact h.fz,
    h.lf, h.lx, h.lw, h.ge, h.nf, h.nw, Nat.le_trans h.sz hb.size, h.le, h.bel.trans (hb.mono h.le)⟩
theorem PW.step {W1 : World} {B bf bx bw : Nat} {f : Int} {u x : Nat} {w w' : World} (h : PW W1 B bf bx bw f u x w) (hb : Below w.heap.size (w.setCell ⟨bx, 0, none⟩ (.int .i64 ((x + 1 : Nat) : Int))) w') : PW W1 B bf bx bw f u (x + 1) w' := by
  have hsz : (w.setCell ⟨bx, 0, none⟩ (.int .i64 ((x + 1 : Nat) : Int))).heap.size = w.heap.size := by simp [World.setCell]
  have hs : PW W1 B bf bx bw f u (x + 1) (w.setCell ⟨bx, 0, none⟩ (.int .i64 ((x + 1 : Nat) : Int))) :=
    ⟨sgo h.nf h.cf, sg1 h.cx, sgo h.nw h.cw, by rw [World.frozen?_setCell]; exact h.fz, h.lf, h.lx, h.lw, h.ge, h.nf, h.nw, by rw [hsz]; exact h.sz, h.le, grows_set h.bel h.ge _⟩
  exact hs.keep (hb.mono h.sz)
theorem PW.own {W1 : World} {B bf bx bw : Nat} {f : Int} {u x : Nat} {w w' : World} (h : PW W1 B bf bx bw f u x w) {y : Value} (hb : Below w.heap.size (w.setCell ⟨bx, 0, none⟩ y) w') {v : Value} {l : List C} (ho : OwnC B w v l) : OwnC B w' v l := by
  have hsz : (w.setCell ⟨bx, 0, none⟩ y).heap.size = w.heap.size := by simp [World.setCell]
  exact OwnC.below (ownsRow_setCell_below ho (a := ⟨bx, 0, none⟩) h.lx y) (by rw [hsz]; exact hb)

theorem PW.call {W1 : World} {B bf bx bw : Nat} {f : Int} {u x : Nat} {w : World} (h : PW W1 B bf bx bw f u x w) (f0 : 0 ≤ f) (f1 : f ≤ 32) (x1 : x ≤ 100000) (u3 : 3 ≤ u) (u8 : u ≤ 8) (r : Nat) (p : Bool) (c : C) (hc : colP f u x r p = c) :
    Calls Tryz.prog 107 #[.int .i64 (r : Int), .bool p, .pointer (some ⟨bf, 0, none⟩), .pointer (some ⟨bx, 0, none⟩), .pointer (some ⟨bw, 0, none⟩)] w fun e w' =>
      e = .returned (.agg #[.int .i64 c.dev, .int .i64 c.at_, .bool c.par, .int .i64 c.row]) ∧ PW W1 B bf bx bw f u (x + 1) w' ∧ ∀ v l, OwnC B w v l → OwnC B w' v l :=
  (next_any w bf bx bw f x u r p h.cf h.cx h.cw (Nat.lt_of_lt_of_le h.lf h.sz) (Nat.lt_of_lt_of_le h.lx h.sz) (Nat.lt_of_lt_of_le h.lw h.sz) h.fz f0 f1 x1 u3 u8 c hc).mono fun _ _ ⟨h1, h2⟩ => ⟨h1, h.step h2, fun _ _ ho => h.own h2 ho⟩

set_option maxHeartbeats 2000000 in
theorem parity_any (l : List (Int × Int)) (s : Int) (v : Value) (w : World) (h : Meas w v l s) (hr : RightM l s) (k : Nat) (hk : k < l.length) (u : Nat) (hu : l[k] = (1, (u : Int))) (t : Nat) (t1 : t ≤ 40000) (z : Nat) (z4 : z ≤ 4) :
    Calls Tryz.prog 79 #[v, .agg #[.int .i64 (k : Int), .int .i64 (t : Int)], .int .i64 (z : Int)] w fun e w' => ∃ v', e = .returned v' ∧ OwnC w.heap.size w' v' (parTo (aheadL l k) t u z) ∧ Below w.heap.size w w' := by
  obtain ⟨a, n, c, rfl, hg⟩ := id h
  have hn := hg.1.2.1
  have hn4 : n ≤ 4 := by rw [← hn]; exact hr.few
  have hkn : k < n := by rw [← hn]; exact hk
  obtain ⟨uu1, uu8⟩ : 3 ≤ u ∧ u ≤ 8 := by
    have := hr.all k hk
    rw [hu] at this
    rcases okG_cases this with ⟨h1, _⟩ | ⟨_, h1, h2⟩
    · omega
    · omega
  obtain ⟨f, hf⟩ : ∃ f, aheadL l k = f := ⟨_, rfl⟩
  have hfb := hr.bounds k (Nat.le_of_lt hk)
  rw [hf] at hfb ⊢
  have f0 : 0 ≤ f := by omega
  have f1 : f ≤ 32 := by omega
  have K1 := Lib.hid (HeldP.start (k : Int) (t : Int) h)
  have HR := Lib.hid hr
  have HL : Hid (∃ hk : k < l.length, l[k] = (1, (u : Int))) := Lib.hid ⟨hk, hu⟩
  have HF : Hid (firstL l s (k : Int) = f) := Lib.hid (by unfold firstL; rw [hasL_iff.2 ⟨hr, k, rfl, hk⟩, if_pos rfl, ← hf]; simp)
  have HI : Hid (-9223372036854775808 ≤ (k : Int) ∧ (k : Int) ≤ 9223372036854775807) := Lib.hid (by omega)
  clear h hg hr hn hf hfb hu hk
  go_enter Tryz.func79, Tryz.ntmps79
  go_upto_region 1 with (fail)
  generalize hW1 : (w.alloc (.cells #[.slice a n c, .int .i64 s] 24)).alloc (.cells #[.int .i64 (k : Int), .int .i64 (t : Int)] 26) = W1 at K1
  clear hW1
  obtain ⟨g, o, rfl, hlt, e0, e1⟩ := K1.out.h.at_ HL.out.1 HL.out.2
  dsimp only at e0 e1
  have c0 := K1.out.h.c0
  have c1 := K1.out.h.c1
  have p0 := K1.out.p0
  have hb1 := K1.out.h.lt
  have hb2 := K1.out.plt
  go_cut [7, 8] (fun s7 s8 wc => ∃ bf bw, s7 = .pointer (some ⟨bf, 0, none⟩) ∧ s8 = .pointer (some ⟨bw, 0, none⟩) ∧ wc.cell? ⟨bf, 0, none⟩ = some (.int .i64 f) ∧ wc.cell? ⟨bw, 0, none⟩ = some (.int .i64 (u : Int)) ∧ bf < wc.heap.size ∧ bw < wc.heap.size ∧ W1.heap.size ≤ bf ∧ W1.heap.size ≤ bw ∧ Below W1.heap.size W1 wc)
  case first =>
    have hS0 : Below W1.heap.size W1 W1.drew := (Below.refl _ W1).drew
    have HA : Hid (∀ W : World, Below W1.heap.size W1 W → W.cell? ⟨w.heap.size, 0, none⟩ = some (.slice (some ⟨g, o, none⟩) n c) ∧ W.cell? ⟨w.heap.size, 1, none⟩ = some (.int .i64 s) ∧ W.cell? ⟨w.heap.size + 1, 0, none⟩ = some (.int .i64 (k : Int)) ∧ W.cell? ⟨g, o + k * 2 + 1, none⟩ = some (.int .i64 (u : Int)) ∧ Below W1.heap.size W1 W) := Lib.hid fun W hb =>
      ⟨by rw [hb.cell (p := ⟨w.heap.size, 0, none⟩) hb1]; exact c0, by rw [hb.cell (p := ⟨w.heap.size, 1, none⟩) hb1]; exact c1, by rw [hb.cell (p := ⟨w.heap.size + 1, 0, none⟩) hb2]; exact p0, by rw [hb.cell (p := ⟨g, o + k * 2 + 1, none⟩) hlt]; exact e1, hb⟩
    have HC : Hid (∀ W : World, (W.cell? ⟨w.heap.size, 0, none⟩ = some (.slice (some ⟨g, o, none⟩) n c) ∧ W.cell? ⟨w.heap.size, 1, none⟩ = some (.int .i64 s) ∧ W.cell? ⟨w.heap.size + 1, 0, none⟩ = some (.int .i64 (k : Int)) ∧ W.cell? ⟨g, o + k * 2 + 1, none⟩ = some (.int .i64 (u : Int)) ∧ Below W1.heap.size W1 W) → Calls Tryz.prog 106 #[.agg #[.slice (some ⟨g, o, none⟩) n c, .int .i64 s], .int .i64 (k : Int)] W fun e w' => e = .returned (.int .i64 f) ∧ Below W.heap.size W w' ∧ Below W1.heap.size W1 w') := Lib.hid fun W ⟨_, _, _, _, hb⟩ =>
      (first_any l s _ _ (K1.out.next hb).h.m (k : Int) HI.out f HF.out).mono fun e w' ⟨h1, h2⟩ => ⟨h1, h2, next hb h2⟩
    go_region_held3 (fun W => W.cell? ⟨w.heap.size, 0, none⟩ = some (.slice (some ⟨g, o, none⟩) n c) ∧ W.cell? ⟨w.heap.size, 1, none⟩ = some (.int .i64 s) ∧ W.cell? ⟨w.heap.size + 1, 0, none⟩ = some (.int .i64 (k : Int)) ∧ W.cell? ⟨g, o + k * 2 + 1, none⟩ = some (.int .i64 (u : Int)) ∧ Below W1.heap.size W1 W)
      ((refine HA.out _ ?_; repeat (first | with_reducible exact hS0 | with_reducible exact bw1 | with_reducible exact Below.refl _ _ | with_reducible refine grows_alloc ?_ _ | with_reducible refine grows_set ?_ (by omega) _ | with_reducible refine Below.drew ?_)))
      (first
      | (go_at_call 106; refine (HC.out _ ?_).mono ?_; assumption; rintro e w1 ⟨rfl, b1, bw1⟩; have bz1 := b1.size;
         (have q1 := @Below.cell _ _ _ b1 ⟨W1.heap.size, 0, none⟩); (have q2 := @Below.cell _ _ _ b1 ⟨W1.heap.size + 1, 0, none⟩); (have q3 := @Below.frozen _ _ _ b1 ⟨W1.heap.size, 0, none⟩); (have q4 := @Below.frozen _ _ _ b1 ⟨W1.heap.size + 1, 0, none⟩); (try simp at q1); (try simp at q2); (try simp at q3); (try simp at q4); (try have q1 := q1 (by omega)); (try have q2 := q2 (by omega)); (try have q3 := q3 (by omega)); (try have q4 := q4 (by omega)); (try simp at bz1); (try have bz2 : W1.heap.size < w1.heap.size := by omega); (try have bz3 : W1.heap.size + 1 < w1.heap.size := by omega)))
    all_goals
      go_wp2_with fail
      go_meet
      refine ⟨_, _, rfl, rfl, ?_, ?_, ?_, ?_, ?_, ?_, ?_⟩
      · first | (simp; done) | with_reducible exact sg1 q1 | with_reducible exact sg1 q2 | with_reducible exact sg2 (by omega) q1 | with_reducible exact sg2 (by omega) q2 | with_reducible exact sg3 (by omega) q1 | with_reducible exact sg3 (by omega) q2 | with_reducible exact sga (by omega) q1 | with_reducible exact sgn
      · first | (simp; done) | with_reducible exact sg1 q1 | with_reducible exact sg1 q2 | with_reducible exact sg2 (by omega) q1 | with_reducible exact sg2 (by omega) q2 | with_reducible exact sg3 (by omega) q1 | with_reducible exact sg3 (by omega) q2 | with_reducible exact sga (by omega) q1 | with_reducible exact sgn
      · first | (simp; done) | (simp [World.setCell]; omega)
      · first | (simp; done) | (simp [World.setCell]; omega)
      · omega
      · omega
      · repeat (first | with_reducible exact hS0 | with_reducible exact bw1 | with_reducible exact Below.refl _ _ | with_reducible refine grows_alloc ?_ _ | with_reducible refine grows_set ?_ (by omega) _ | with_reducible refine Below.drew ?_)
  case rest =>
    obtain ⟨bf, bw, rfl, rfl, cf, cw, lf, lw, gf, gw, hbc⟩ := hcut
    have K2 := Lib.hid (K1.out.next hbc)
    have q1 := K2.out.p1
    have q2 := K2.out.plt
    go_upto_region 4 with (fail)
    have hP : PW W1 (wc.heap.size + 1) bf wc.heap.size bw f u t (wc.alloc (.cells #[.int .i64 (t : Int)] 3)) :=
      ⟨by rw [(boxed wc _).cell (p := ⟨bf, 0, none⟩) lf]; exact cf, by simp, by rw [(boxed wc _).cell (p := ⟨bw, 0, none⟩) lw]; exact cw, by simp, by omega, by omega, by omega, hbc.size, by omega, by omega, by simp, by have := hbc.size; omega, grows_alloc hbc _⟩
    have HP := Lib.hid hP
    have HS : Hid ((wc.alloc (.cells #[.int .i64 (t : Int)] 3)).heap.size = wc.heap.size + 1) := Lib.hid (by simp)
    have HBZ := Lib.hid hbc.size
    generalize wc.alloc (.cells #[.int .i64 (t : Int)] 3) = W2 at *
    generalize wc.heap.size = bx at *
    have hbel := K1.out.h.below
    have HW := Lib.hid hbel
    clear hbel hP hbc q1 q2 cf cw lf lw gf gw K2 hlt e0 e1 c0 c1 p0 hb1 hb2
    obtain ⟨p, hp⟩ : ∃ p : Nat, (u : Int) - 1 = (p : Int) := ⟨u - 1, by omega⟩
    have HPu : Hid (u - 1 = p) := Lib.hid (by omega)
    have p2 : 2 ≤ p := by omega
    have p7 : p ≤ 7 := by omega
    go_wp2_with fail
    go_loopw [11, 29] (fun t11 i wr => ∃ j x : Nat, j ≤ z ∧ x ≤ 50000 ∧ i = .int .i64 (j : Int) ∧ Hid (x = t + (parTo f t u j).length) ∧ Hid (OwnC (bx + 1) wr t11 (parTo f t u j)) ∧ Hid (PW W1 (bx + 1) bf bx bw f u x wr)) (fun _ i _ => z - (intOf i).toNat)
    case atStart => exact ⟨0, t, Nat.zero_le _, by omega, rfl, Lib.hid rfl, Lib.hid (OwnC.nil _ _), HP⟩
    case round =>
      obtain ⟨j, x, hj, hx, rfl, HX, HO, HW2⟩ := hrel
      by_cases hjz : j < z
      · have cw := HW2.out.cw
        have lw := HW2.out.lw
        have HLen : Hid ((parTo f t u j).length ≤ 8) := Lib.hid (by have := parTo_len f t u j; omega)
        obtain ⟨r, hr⟩ : ∃ r : Nat, (j : Int) / (p : Int) = (r : Int) := ⟨j / p, by simp⟩
        obtain ⟨m, hm⟩ : ∃ m : Nat, (j : Int) % (p : Int) = (m : Int) := ⟨j % p, by simp⟩
        have HRR : Hid (j / (u - 1) = r) := Lib.hid (by rw [HPu.out]; have : ((j / p : Nat) : Int) = (r : Int) := by rw [← hr]; simp
                                                        omega)
        have HMM : Hid (j % (u - 1) = m) := Lib.hid (by rw [HPu.out]; have : ((j % p : Nat) : Int) = (m : Int) := by rw [← hm]; simp
                                                        omega)
        have r4 : r ≤ 4 := by have h1 := HRR.out; have h2 := Nat.div_le_self j (u - 1); omega
        by_cases hm0 : m = 0
        · subst hm0
          obtain ⟨c1, hc1⟩ : ∃ c1, colP f u x r true = c1 := ⟨_, rfl⟩
          obtain ⟨c2, hc2⟩ : ∃ c2, colP f u (x + 1) r false = c2 := ⟨_, rfl⟩
          have HC1 := Lib.hid hc1
          have HC2 := Lib.hid hc2
          clear hc1 hc2
          have HN : Hid (parTo f t u (j + 1) = (parTo f t u j ++ [c1]) ++ [c2]) := Lib.hid (by rw [parTo, if_pos HMM.out, HRR.out, ← HX.out, HC1.out, HC2.out])
          go_wp2_with fail
          refine (HW2.out.call f0 f1 (by omega) uu1 uu8 r true c1 HC1.out).mono ?_
          rintro e w3 ⟨rfl, hP3, ho3⟩
          have HP3 := Lib.hid hP3
          have HO3 := Lib.hid (ho3 _ _ HO.out)
          have sz3 := hP3.sz
          clear hP3 ho3 cw lw
          go_wp2_with (first | (at_builtin; refine wpList_append_col _ rfl _ _ rfl (bx + 1) _ _ c1 w3.heap.size 1 rfl rfl (HO3.out.below (boxed _ _)) ⟨by simp, by simp, by simp, by simp⟩ (by simp; omega) (Nat.le_trans HLen.out (by omega)) ?_; intro v4 w4 hown4 hb4 hs4) | fail)
          have hP4 := HP3.out.keep ((Below.refl _ w3).alloc sz3 (.cells #[.int .i64 c1.dev, .int .i64 c1.at_, .bool c1.par, .int .i64 c1.row] 75))
          have HP4 := Lib.hid (hP4.keep hb4)
          have HO4 := Lib.hid hown4
          clear hP4 hb4 hown4 hs4
          refine (HP4.out.call f0 f1 (by omega) uu1 uu8 r false c2 HC2.out).mono ?_
          rintro e w5 ⟨rfl, hP5, ho5⟩
          have HP5 := Lib.hid hP5
          have HO5 := Lib.hid (ho5 _ _ HO4.out)
          have sz5 := hP5.sz
          clear hP5 ho5
          go_wp2_with (first | (at_builtin; refine wpList_append_col _ rfl _ _ rfl (bx + 1) _ _ c2 w5.heap.size 1 rfl rfl (HO5.out.below (boxed _ _)) ⟨by simp, by simp, by simp, by simp⟩ (by simp; omega) (by have := HLen.out; simp; omega) ?_; intro v6 w6 hown6 hb6 hs6) | fail)
          have hP6 := HP5.out.keep ((Below.refl _ w5).alloc sz5 (.cells #[.int .i64 c2.dev, .int .i64 c2.at_, .bool c2.par, .int .i64 c2.row] 75))
          have HP6 := Lib.hid (hP6.keep hb6)
          have HO6 := Lib.hid hown6
          clear hP6 hb6 hown6 hs6
          go_roundw
          case rel =>
            refine ⟨j + 1, x + 1 + 1, by omega, ?_, by go_num, Lib.hid ?_, Lib.hid ?_, HP6⟩
            · have := HLen.out; have := HX.out; omega
            · rw [HN.out, List.length_append, List.length_append, HX.out]; rfl
            · rw [HN.out]; exact HO6.out
          case measure => simp [intOf]; omega
        · have hm1 : ((m : Int) == 0) = false := by simp [hm0]
          obtain ⟨c2, hc2⟩ : ∃ c2, colP f u x r false = c2 := ⟨_, rfl⟩
          have HC2 := Lib.hid hc2
          clear hc2
          have HN : Hid (parTo f t u (j + 1) = parTo f t u j ++ [c2]) := Lib.hid (by rw [parTo, if_neg (by rw [HMM.out]; exact hm0), HRR.out, ← HX.out, HC2.out])
          go_wp2_with fail
          refine (HW2.out.call f0 f1 (by omega) uu1 uu8 r false c2 HC2.out).mono ?_
          rintro e w5 ⟨rfl, hP5, ho5⟩
          have HP5 := Lib.hid hP5
          have HO5 := Lib.hid (ho5 _ _ HO.out)
          have sz5 := hP5.sz
          clear hP5 ho5 cw lw
          go_wp2_with (first | (at_builtin; refine wpList_append_col _ rfl _ _ rfl (bx + 1) _ _ c2 w5.heap.size 1 rfl rfl (HO5.out.below (boxed _ _)) ⟨by simp, by simp, by simp, by simp⟩ (by simp; omega) (by have := HLen.out; simp; omega) ?_; intro v6 w6 hown6 hb6 hs6) | fail)
          have hP6 := HP5.out.keep ((Below.refl _ w5).alloc sz5 (.cells #[.int .i64 c2.dev, .int .i64 c2.at_, .bool c2.par, .int .i64 c2.row] 75))
          have HP6 := Lib.hid (hP6.keep hb6)
          have HO6 := Lib.hid hown6
          clear hP6 hb6 hown6 hs6
          go_roundw
          case rel =>
            refine ⟨j + 1, x + 1, by omega, ?_, by go_num, Lib.hid ?_, Lib.hid ?_, HP6⟩
            · have := HLen.out; have := HX.out; omega
            · rw [HN.out, List.length_append, HX.out]; rfl
            · rw [HN.out]; exact HO6.out
          case measure => simp [intOf]; omega
      · obtain rfl : j = z := by omega
        go_wp2
        go_ret
        exact ⟨_, rfl, HO.out.lower (by have := HW.out.size; have := HBZ.out; omega), next HW.out HW2.out.bel⟩
end Go.Proofs.YtiffkbmcikiioaaGreat

/- A block's columns: cols.Of. -/
namespace Go.Proofs.YtiffkbmcikiioaaGreat
set_option maxRecDepth 100000
open Go.RowKit

theorem ltge (a b : Int) : a < b ∨ b ≤ a := by omega
theorem takesG_pos (x : Int × Int) (z : Int) (h1 : 1 ≤ z) (h4 : z ≤ 4) : 1 ≤ takesG x z ∧ takesG x z ≤ 6 := by
  unfold takesG
  split
  · omega
  · split
    · omega
    · split
      · omega
      · split
        · split <;> omega
        · omega
theorem gives_bounds {x : Int × Int} {s : Int} (hx : okG x = true) (s0 : 24 ≤ s) (s1 : s ≤ 4096) : 8 ≤ gives x s ∧ gives x s ≤ 32640 := by
  obtain ⟨h1, h8⟩ := okG_wide hx
  unfold gives
  split
  · have a : (s - 16) * x.2 ≤ 4080 * 8 := Int.mul_le_mul (by omega) h8 (by omega) (by omega)
    have b : (s - 16) * 1 ≤ (s - 16) * x.2 := Int.mul_le_mul_of_nonneg_left h1 (by omega)
    omega
  · omega
/-- A block that may be there: of group k, from t on, of z sectors. -/
structure Blk (l : List (Int × Int)) (s : Int) (k t z : Nat) : Prop where
  right : RightM l s
  hk : k < l.length
  z1 : 1 ≤ z
  z4 : z ≤ 4
  fit : (t : Int) + takesG l[k] z ≤ gives l[k] s
def mayL (l : List (Int × Int)) (s k t z : Int) : Bool := hasL l s k && decide (1 ≤ z) && decide (z ≤ 4) && decide (0 ≤ t) && decide (t + takesG (l.getD k.toNat (0, 0)) z ≤ gives (l.getD k.toNat (0, 0)) s)
theorem getD_at {l : List (Int × Int)} {k : Nat} (h : k < l.length) : l.getD k (0, 0) = l[k] := by
  rw [List.getD_eq_getElem?_getD, List.getElem?_eq_getElem h]; rfl
theorem mayL_iff {l : List (Int × Int)} {s k t z : Int} : mayL l s k t z = true ↔ ∃ k' t' z' : Nat, k = k' ∧ t = t' ∧ z = z' ∧ Blk l s k' t' z' := by
  unfold mayL
  simp only [Bool.and_eq_true, decide_eq_true_eq, hasL_iff]
  constructor
  · rintro ⟨⟨⟨⟨⟨h1, k', rfl, hk⟩, h2⟩, h3⟩, h4⟩, h5⟩
    obtain ⟨t', rfl⟩ := Int.eq_ofNat_of_zero_le h4
    obtain ⟨z', rfl⟩ := Int.eq_ofNat_of_zero_le (show 0 ≤ z by omega)
    refine ⟨k', t', z', rfl, rfl, rfl, h1, hk, by omega, by omega, ?_⟩
    rw [← getD_at hk]
    exact h5
  · rintro ⟨k', t', z', rfl, rfl, rfl, h⟩
    refine ⟨⟨⟨⟨⟨h.right, k', rfl, h.hk⟩, by have := h.z1; omega⟩, by have := h.z4; omega⟩, by omega⟩, ?_⟩
    have := h.fit
    rw [← getD_at h.hk] at this
    exact this
/-- A block's columns. -/
def colsG (f : Int) (x : Int × Int) (t z : Nat) : List C := if x.1 = 0 then mirL f t x.2.toNat z else parTo f t x.2.toNat z
def colsOf (l : List (Int × Int)) (k t z : Nat) : List C := colsG (aheadL l k) (l.getD k (0, 0)) t z

theorem Blk.bounds {l : List (Int × Int)} {s : Int} {k t z : Nat} (h : Blk l s k t z) : (t : Int) ≤ 32640 ∧ k ≤ 4 := by
  have hk := h.hk
  have h1 := gives_bounds (h.right.all k h.hk) h.right.s0 h.right.s1
  have h2 := takesG_pos l[k] z (by have := h.z1; omega) (by have := h.z4; omega)
  have h3 := h.fit
  have h4 := h.hk
  have h5 := h.right.few
  omega

structure KP (w0 : World) (b p : Nat) (a : Option Addr) (n c : Nat) (s : Int) (l : List (Int × Int)) (k t : Int) where
  v : World
  h : HeldP w0 v b p a n c s l k t
theorem HeldP.drew {w0 w : World} {b p : Nat} {a : Option Addr} {n c : Nat} {s : Int} {l : List (Int × Int)} {k t : Int} (h : HeldP w0 w b p a n c s l k t) : HeldP w0 w.drew b p a n c s l k t := h.next (Below.refl _ w).drew

set_option maxHeartbeats 2000000 in
theorem of_bad (l : List (Int × Int)) (s : Int) (v : Value) (w : World) (h : Meas w v l s) (k t z : Int) (hk : -9223372036854775808 ≤ k ∧ k ≤ 9223372036854775807) (ht : -9223372036854775808 ≤ t ∧ t ≤ 9223372036854775807) (hz : -9223372036854775808 ≤ z ∧ z ≤ 9223372036854775807)
    (hno : mayL l s k t z = false) :
    Calls Tryz.prog 45 #[v, .agg #[.int .i64 k, .int .i64 t], .int .i64 z] w fun e w' => e = .returned (.tuple #[.slice none 0 0, .int .i64 1]) ∧ Below w.heap.size w w' := by
  have K1 := h
  obtain ⟨a, n, c, rfl, hg⟩ := id h
  replace K1 := Lib.hid (HeldP.start k t K1)
  by_cases hno1 : hasL l s k = false ∨ z < 1 ∨ 4 < z
  · have HN := Lib.hid hno1
    have HI := Lib.hid hk
    have HZ := Lib.hid hz
    clear h hg hno hno1 hk hz ht
    go_enter Tryz.func45, Tryz.ntmps45
    go_wp2_with fail
    refine (takes_none l s _ _ K1.out.h.m k z HI.out HZ.out HN.out).mono ?_
    rintro e w1 ⟨rfl, b1⟩
    have K2 := Lib.hid (K1.out.next b1)
    clear b1 K1
    go_wp2_with fail
    haveI hne : Nonempty (KP w w.heap.size (w.heap.size + 1) a n c s l k t) := ⟨⟨w1, K2.out⟩⟩
    refine wp_region_family (KP.v (w0 := w) (b := w.heap.size) (p := w.heap.size + 1) (a := a) (n := n) (c := c) (s := s) (l := l) (k := k) (t := t)) (by kernel_rfl) (by kernel_rfl) ⟨⟨_, K2.out.drew⟩, rfl⟩ ?_
    repeat (go_big_quiet_step (first | fail))
    refine wpQuiet_nil ?_
    rintro w7 ⟨⟨w4, K4⟩, rfl⟩
    go_wp2
    go_ret2
    exact ⟨rfl, K4.h.below⟩
  · have hl1 : hasL l s k = true := by
      cases e : hasL l s k with
      | true => rfl
      | false => exact absurd (.inl e) hno1
    obtain ⟨hr, k, rfl, hkl⟩ := hasL_iff.1 hl1
    obtain ⟨z1, z4⟩ : 1 ≤ z ∧ z ≤ 4 := by
      constructor
      · rcases ltge z 1 with h | h
        · exact absurd (.inr (.inl h)) hno1
        · omega
      · rcases ltge 4 z with h | h
        · exact absurd (.inr (.inr h)) hno1
        · omega
    obtain ⟨x, hx⟩ : ∃ x, takesG l[k] z = x := ⟨_, rfl⟩
    obtain ⟨y, hy⟩ : ∃ y, gives l[k] s = y := ⟨_, rfl⟩
    obtain ⟨x1, x6⟩ : 1 ≤ x ∧ x ≤ 6 := by have := takesG_pos l[k] z z1 z4; omega
    obtain ⟨y8, yb⟩ : 8 ≤ y ∧ y ≤ 32640 := by have := gives_bounds (hr.all k hkl) hr.s0 hr.s1; omega
    have hxz : (x == 0) = false := by simp; omega
    have hor : t < 0 ∨ y < t + x := by
      rcases ltge t 0 with h | h
      · exact .inl h
      · refine .inr ?_
        rcases ltge y (t + x) with h' | h'
        · exact h'
        · have : mayL l s (k : Int) t z = true := mayL_iff.2 ⟨k, t.toNat, z.toNat, rfl, by omega, by omega, hr, hkl, by omega, by omega, by
            have e1 : (t.toNat : Int) = t := by omega
            have e2 : (z.toNat : Int) = z := by omega
            rw [e1, e2, hx, hy]; exact h'⟩
          rw [this] at hno
          cases hno
    have HX := Lib.hid hx
    have HY := Lib.hid hy
    have HR := Lib.hid hr
    obtain ⟨t0, t1⟩ := ht
    clear h hg hno hno1 hk hz hx hy hl1 hr
    go_enter Tryz.func45, Tryz.ntmps45
    go_wp2_with fail
    refine (takes_some l s _ _ K1.out.h.m HR.out k hkl z z1 z4 x HX.out).mono ?_
    rintro e w1 ⟨rfl, b1⟩
    have K2 := Lib.hid (K1.out.next b1)
    clear b1 K1
    go_wp2_with fail
    haveI hne : Nonempty (KP w w.heap.size (w.heap.size + 1) a n c s l (k : Int) t) := ⟨⟨w1, K2.out⟩⟩
    have CS : Hid (∀ q : KP w w.heap.size (w.heap.size + 1) a n c s l (k : Int) t, Calls Tryz.prog 77 #[.agg #[.slice a n c, .int .i64 s], .int .i64 (k : Int)] q.v fun e w' => e = .returned (.int .i64 y) ∧ ∃ q' : KP w w.heap.size (w.heap.size + 1) a n c s l (k : Int) t, w' = q'.v) :=
      Lib.hid fun q => (sectors_some l s _ q.v q.h.h.m HR.out k hkl y HY.out).mono fun e w' ⟨he, hb⟩ => ⟨he, ⟨w', q.h.next hb⟩, rfl⟩
    have k0 := fun q : KP w w.heap.size (w.heap.size + 1) a n c s l (k : Int) t => q.h.h.c0
    have k1 := fun q : KP w w.heap.size (w.heap.size + 1) a n c s l (k : Int) t => q.h.h.c1
    have m0 := fun q : KP w w.heap.size (w.heap.size + 1) a n c s l (k : Int) t => q.h.p0
    have m1 := fun q : KP w w.heap.size (w.heap.size + 1) a n c s l (k : Int) t => q.h.p1
    by_cases htn : t < 0
    · have hd : decide (t < 0) = true := decide_eq_true htn
      clear hor
      refine wp_region_family (KP.v (w0 := w) (b := w.heap.size) (p := w.heap.size + 1) (a := a) (n := n) (c := c) (s := s) (l := l) (k := (k : Int)) (t := t)) (by kernel_rfl) (by kernel_rfl) ⟨⟨_, K2.out.drew⟩, rfl⟩ ?_
      repeat (go_big_quiet_step (first | (go_at_call 77; exact CS.out _)))
      refine wpQuiet_nil ?_
      rintro w7 ⟨⟨w4, K4⟩, rfl⟩
      go_wp2
      go_ret2
      exact ⟨rfl, K4.h.below⟩
    · have hd : decide (t < 0) = false := decide_eq_false htn
      have hd2 : decide (y - x < t) = true := decide_eq_true (by omega)
      clear hor
      refine wp_region_family (KP.v (w0 := w) (b := w.heap.size) (p := w.heap.size + 1) (a := a) (n := n) (c := c) (s := s) (l := l) (k := (k : Int)) (t := t)) (by kernel_rfl) (by kernel_rfl) ⟨⟨_, K2.out.drew⟩, rfl⟩ ?_
      repeat (go_big_quiet_step (first | (go_at_call 77; exact CS.out _)))
      refine wpQuiet_nil ?_
      rintro w7 ⟨⟨w4, K4⟩, rfl⟩
      go_wp2
      go_ret2
      exact ⟨rfl, K4.h.below⟩

set_option maxHeartbeats 2000000 in
theorem of_ok (l : List (Int × Int)) (s : Int) (v : Value) (w : World) (h : Meas w v l s) (k t z : Nat) (hB : Blk l s k t z) :
    Calls Tryz.prog 45 #[v, .agg #[.int .i64 (k : Int), .int .i64 (t : Int)], .int .i64 (z : Int)] w fun e w' => ∃ v', e = .returned (.tuple #[v', .int .i64 0]) ∧ OwnC w.heap.size w' v' (colsOf l k t z) ∧ Below w.heap.size w w' := by
  have K1 := h
  obtain ⟨a, n, c, rfl, hg⟩ := id h
  replace K1 := Lib.hid (HeldP.start (k : Int) (t : Int) K1)
  obtain ⟨tb, kb⟩ := hB.bounds
  obtain ⟨hr, hkl, z1, z4, hfit⟩ := hB
  have hn := hg.1.2.1
  have hn4 : n ≤ 4 := by rw [← hn]; exact hr.few
  have hkn : k < n := by rw [← hn]; exact hkl
  obtain ⟨x, hx⟩ : ∃ x, takesG l[k] z = x := ⟨_, rfl⟩
  obtain ⟨y, hy⟩ : ∃ y, gives l[k] s = y := ⟨_, rfl⟩
  obtain ⟨x1, x6⟩ : 1 ≤ x ∧ x ≤ 6 := by have := takesG_pos l[k] z (by omega) (by omega); omega
  obtain ⟨y8, yb⟩ : 8 ≤ y ∧ y ≤ 32640 := by have := gives_bounds (hr.all k hkl) hr.s0 hr.s1; omega
  rw [hx, hy] at hfit
  have hxz : (x == 0) = false := by simp; omega
  obtain ⟨kk, u, hlk, hok⟩ : ∃ kk u, l[k] = (kk, u) ∧ okG (kk, u) = true := ⟨l[k].1, l[k].2, rfl, hr.all k hkl⟩
  have HLK : Hid (∃ hk : k < l.length, l[k] = (kk, u)) := Lib.hid ⟨hkl, hlk⟩
  have HX := Lib.hid hx
  have HY := Lib.hid hy
  have HR := Lib.hid hr
  have HOK := Lib.hid hok
  have HCO : Hid (colsOf l k t z = colsG (aheadL l k) (kk, u) t z) := Lib.hid (by unfold colsOf; rw [getD_at hkl, hlk])
  obtain ⟨u0, hu⟩ := Int.eq_ofNat_of_zero_le (show 0 ≤ u by have := okG_wide hok; omega)
  subst hu
  clear h hg hx hy hr hn hlk hok
  go_enter Tryz.func45, Tryz.ntmps45
  go_wp2_with fail
  refine (takes_some l s _ _ K1.out.h.m HR.out k hkl z (by omega) (by omega) x HX.out).mono ?_
  rintro e w1 ⟨rfl, b1⟩
  have K2 := Lib.hid (K1.out.next b1)
  clear b1 K1
  go_wp2_with fail
  haveI hne : Nonempty (KP w w.heap.size (w.heap.size + 1) a n c s l (k : Int) t) := ⟨⟨w1, K2.out⟩⟩
  have CS : Hid (∀ q : KP w w.heap.size (w.heap.size + 1) a n c s l (k : Int) t, Calls Tryz.prog 77 #[.agg #[.slice a n c, .int .i64 s], .int .i64 (k : Int)] q.v fun e w' => e = .returned (.int .i64 y) ∧ ∃ q' : KP w w.heap.size (w.heap.size + 1) a n c s l (k : Int) t, w' = q'.v) :=
    Lib.hid fun q => (sectors_some l s _ q.v q.h.h.m HR.out k hkl y HY.out).mono fun e w' ⟨he, hb⟩ => ⟨he, ⟨w', q.h.next hb⟩, rfl⟩
  have k0 := fun q : KP w w.heap.size (w.heap.size + 1) a n c s l (k : Int) t => q.h.h.c0
  have k1 := fun q : KP w w.heap.size (w.heap.size + 1) a n c s l (k : Int) t => q.h.h.c1
  have m0 := fun q : KP w w.heap.size (w.heap.size + 1) a n c s l (k : Int) t => q.h.p0
  have m1 := fun q : KP w w.heap.size (w.heap.size + 1) a n c s l (k : Int) t => q.h.p1
  have hd : decide ((t : Int) < 0) = false := decide_eq_false (by omega)
  have hd2 : decide (y - x < (t : Int)) = false := decide_eq_false (by omega)
  refine wp_region_family (KP.v (w0 := w) (b := w.heap.size) (p := w.heap.size + 1) (a := a) (n := n) (c := c) (s := s) (l := l) (k := (k : Int)) (t := t)) (by kernel_rfl) (by kernel_rfl) ⟨⟨_, K2.out.drew⟩, rfl⟩ ?_
  repeat (go_big_quiet_step (first | (go_at_call 77; exact CS.out _)))
  refine wpQuiet_nil ?_
  rintro w7 ⟨⟨w4, K4⟩, rfl⟩
  clear k0 k1 m0 m1 CS hne K2 w1
  have K5 := Lib.hid K4
  obtain ⟨g, o, rfl, hlt, e0, e1⟩ := K4.h.at_ HLK.out.1 HLK.out.2
  dsimp only at e0 e1
  have c0 := K4.h.c0
  have c1 := K4.h.c1
  have p0 := K4.p0
  have p1 := K4.p1
  clear K4
  rcases okG_cases HOK.out with ⟨rfl, u1, u8⟩ | ⟨rfl, u1, u8⟩
  · have tb2 : (t : Int) ≤ 4096 := by
      have h1 := HY.out
      obtain ⟨hk', e⟩ := HLK.out
      rw [e] at h1
      have h2 : s - 16 = y := h1
      have := HR.out.s1
      omega
    go_wp2_with fail
    refine (mirror_any l s _ _ K5.out.h.m HR.out k hkl u0 (by obtain ⟨_, e⟩ := HLK.out; exact e) (t : Int) (by omega) tb2 z z4).mono ?_
    rintro e w8 ⟨v8, rfl, ho, hb⟩
    go_wp2
    go_ret2
    refine ⟨_, rfl, ?_, next K5.out.h.below hb⟩
    rw [HCO.out]
    exact ho.lower K5.out.h.below.size
  · have tb2 : t ≤ 40000 := by omega
    go_wp2_with fail
    refine (parity_any l s _ _ K5.out.h.m HR.out k hkl u0 (by obtain ⟨_, e⟩ := HLK.out; exact e) t tb2 z z4).mono ?_
    rintro e w8 ⟨v8, rfl, ho, hb⟩
    go_wp2
    go_ret2
    refine ⟨_, rfl, ?_, next K5.out.h.below hb⟩
    rw [HCO.out]
    exact ho.lower K5.out.h.below.size
end Go.Proofs.YtiffkbmcikiioaaGreat

/- Columns compared: the document's Same; the example. -/
namespace Go.Proofs.YtiffkbmcikiioaaGreat
set_option maxRecDepth 100000
open Go.RowKit

/-- The slice v is the columns l. -/
def ColsV (w : World) (v : Value) (l : List C) : Prop :=
  ∃ a n c, v = .slice a n c ∧ l.length = n ∧ ∀ j (h : j < l.length), ∃ g, a = some ⟨g, 0, none⟩ ∧ g < w.heap.size ∧ IsC w g (j * 4) l[j]
theorem ColsV.next {w w' : World} {v : Value} {l : List C} (h : ColsV w v l) (k : Below w.heap.size w w') : ColsV w' v l := by
  obtain ⟨a, n, c, rfl, hn, hj⟩ := h
  refine ⟨a, n, c, rfl, hn, fun j h => ?_⟩
  obtain ⟨g, ha, hg, hc⟩ := hj j h
  exact ⟨g, ha, Nat.lt_of_lt_of_le hg k.size, hc.below hg k⟩
theorem OwnC.v {w : World} {B : Nat} {v : Value} {l : List C} (h : OwnC B w v l) : ColsV w v l := by
  by_cases hl : 0 < l.length
  · obtain ⟨g, c, rfl, hc, hB, hA⟩ := h.some hl
    exact ⟨_, _, _, rfl, rfl, fun j hj => ⟨g, rfl, hA.lt, hA.at_ j hj⟩⟩
  · obtain ⟨a, c, rfl⟩ := h.none
    exact ⟨_, _, _, rfl, rfl, fun j hj => absurd hj (by omega)⟩
theorem ColsV.some {w : World} {v : Value} {l : List C} (h : ColsV w v l) (hl : 0 < l.length) : ∃ g n c, v = .slice (some ⟨g, 0, none⟩) n c ∧ l.length = n ∧ g < w.heap.size ∧ ∀ j (h : j < l.length), IsC w g (j * 4) l[j] := by
  obtain ⟨a, n, c, rfl, hn, hj⟩ := h
  obtain ⟨g, rfl, hg, _⟩ := hj 0 hl
  refine ⟨g, n, c, rfl, hn, hg, fun j h => ?_⟩
  obtain ⟨g', e, _, hc⟩ := hj j h
  cases e
  exact hc
theorem ColsV.nil (w : World) : ColsV w (.slice none 0 0) [] := ⟨_, _, _, rfl, rfl, fun _ h => absurd h (Nat.not_lt_zero _)⟩
def C.same (a b : C) : Bool := (a.dev == b.dev) && (a.at_ == b.at_) && (a.par == b.par) && (a.row == b.row)
theorem C.same_iff {a b : C} : a.same b = true ↔ a = b := by
  cases a; cases b
  simp [C.same, and_assoc]

theorem C.cmp (x y : C) : x = y ∨ (x ≠ y ∧ ((x.dev == y.dev) = false ∨ ((x.dev == y.dev) = true ∧ (x.at_ == y.at_) = false) ∨ ((x.dev == y.dev) = true ∧ (x.at_ == y.at_) = true ∧ (x.par == y.par) = false) ∨
    ((x.dev == y.dev) = true ∧ (x.at_ == y.at_) = true ∧ (x.par == y.par) = true ∧ (x.row == y.row) = false))) := by
  by_cases h : x = y
  · exact .inl h
  · refine .inr ⟨h, ?_⟩
    by_cases h0 : x.dev = y.dev
    · by_cases h1 : x.at_ = y.at_
      · by_cases h2 : x.par = y.par
        · by_cases h3 : x.row = y.row
          · exact absurd (C.ext' h0 h1 h2 h3) h
          · exact .inr (.inr (.inr ⟨by simp [h0], by simp [h1], by simp [h2], by simp [h3]⟩))
        · exact .inr (.inr (.inl ⟨by simp [h0], by simp [h1], by rw [beq_eq_false_iff_ne]; exact h2⟩))
      · exact .inr (.inl ⟨by simp [h0], by simp [h1]⟩)
    · exact .inl (by simp [h0])

end Go.Proofs.YtiffkbmcikiioaaGreat

/- slices.DeleteFunc of columns: the parities are left out. -/
namespace Go.Proofs.YtiffkbmcikiioaaGreat
set_option maxRecDepth 100000
open Go.RowKit

theorem isPar (w : World) (x : C) : Calls Tryz.prog 95 #[.agg #[.int .i64 x.dev, .int .i64 x.at_, .bool x.par, .int .i64 x.row]] w fun e w' => e = .returned (.bool x.par) ∧ Below w.heap.size w w' := by
  go_enter Tryz.func95, Tryz.ntmps95
  go_wp2
  go_ret
  exact ⟨rfl, boxed _ _⟩

set_option maxHeartbeats 1000000 in
theorem index_none (w : World) (L : List C) (a : Option Addr) (n c : Nat) (hV : ColsV w (.slice a n c) L) (hn : n ≤ 100000) (hp : ∀ j (h : j < L.length), L[j].par = false) :
    Calls Tryz.prog 127 #[.slice a n c, .func (.func 95) #[] #[]] w fun e w' => e = .returned (.int .i64 (-1)) ∧ Below w.heap.size w w' := by
  have HV := Lib.hid hV
  have HP := Lib.hid hp
  clear hV hp
  have HN : Hid (L.length = n) := Lib.hid (by obtain ⟨_, _, _, e, h, _⟩ := HV.out; cases e; exact h)
  go_enter Tryz.func127, Tryz.ntmps127
  go_wp2_with fail
  go_loopw [8] (fun i wr => ∃ k : Nat, k ≤ n ∧ i = .int .i64 (k : Int) ∧ Hid (Below w.heap.size w wr)) (fun i _ => n - (intOf i).toNat)
  case atStart => exact ⟨0, Nat.zero_le _, rfl, Lib.hid (Below.refl _ _)⟩
  case round =>
    obtain ⟨k, hk, rfl, HW⟩ := hrel
    by_cases hkn : k < n
    · have hkl : k < L.length := by rw [HN.out]; exact hkn
      obtain ⟨g, m, c', e, _, hlt, hC⟩ := HV.out.some (by omega)
      cases e
      obtain ⟨x, hx⟩ : ∃ x, L[k] = x := ⟨_, rfl⟩
      have hpx := HP.out k hkl
      have hCk := (hC k hkl).below hlt HW.out
      rw [hx] at hpx hCk
      obtain ⟨e0, e1, e2, e3⟩ := hCk
      rw [hpx] at e2
      have HX := Lib.hid hpx
      clear hpx hx hC hkl
      have hI := Lib.hid (isPar wr x)
      go_wp2_with fail
      refine (by have := hI.out; rw [HX.out] at this; exact this : Calls Tryz.prog 95 #[.agg #[.int .i64 x.dev, .int .i64 x.at_, .bool false, .int .i64 x.row]] wr fun e w' => e = .returned (.bool false) ∧ Below wr.heap.size wr w').mono ?_
      rintro e w1 ⟨rfl, b1⟩
      go_wp2
      go_roundw
      case rel => exact ⟨k + 1, by omega, by go_num, Lib.hid (next HW.out b1)⟩
      case measure => simp [intOf]; omega
    · go_wp2
      go_ret
      exact ⟨rfl, HW.out⟩

set_option maxHeartbeats 1000000 in
theorem index_zero (w : World) (L : List C) (a : Option Addr) (n c : Nat) (hV : ColsV w (.slice a n c) L) (hn : n ≤ 100000) (h0 : 0 < L.length) (hp : L[0].par = true) :
    Calls Tryz.prog 127 #[.slice a n c, .func (.func 95) #[] #[]] w fun e w' => e = .returned (.int .i64 0) ∧ Below w.heap.size w w' := by
  obtain ⟨g, m, c', e, hm, hlt, hC⟩ := hV.some h0
  cases e
  obtain ⟨x, hx⟩ : ∃ x, L[0] = x := ⟨_, rfl⟩
  have hCk := hC 0 h0
  rw [hx] at hp hCk
  obtain ⟨e0, e1, e2, e3⟩ := hCk
  rw [hp] at e2
  simp only [Nat.zero_mul, Nat.zero_add] at e0 e1 e2 e3
  have hn0 : 0 < n := by omega
  have HX := Lib.hid hp
  have hI := Lib.hid (isPar w x)
  clear hC hV hp hx hm
  go_enter Tryz.func127, Tryz.ntmps127
  go_wp2_with fail
  refine wp_loop_rounds 1 ?_
  rw [rounds_succ]
  go_wp2_with fail
  refine (by have := hI.out; rw [HX.out] at this; exact this : Calls Tryz.prog 95 #[.agg #[.int .i64 x.dev, .int .i64 x.at_, .bool true, .int .i64 x.row]] w fun e w' => e = .returned (.bool true) ∧ Below w.heap.size w w').mono ?_
  rintro e w1 ⟨rfl, b1⟩
  go_wp2
  go_ret
  exact ⟨rfl, b1⟩
end Go.Proofs.YtiffkbmcikiioaaGreat
