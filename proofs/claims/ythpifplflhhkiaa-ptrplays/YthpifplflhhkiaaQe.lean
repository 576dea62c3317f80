/-
  The document's answer on a pointer's rightness (polderref09.Right).
-/
import Derived.Test.YthpifplflhhkiaaQd
import Derived.Test.YthpifplflhhkiaaCs
namespace Go.Proofs.Ythpifplflhhkiaa
set_option maxRecDepth 100000
open Go.RowKit M

theorem rightP_out {l : List (Int × Int)} {s : Int} {x : Ptr} (h : ¬ rangeP x) : rightP l s x = false := by
  rw [rightP, decide_eq_false h]; rfl
set_option maxHeartbeats 2000000 in
theorem refRight9_any (l : List (Int × Int)) (s : Int) (v : Value) (w : World) (h : Meas w v l s) (x : Ptr) (hx : x.Ok) (b : Bool) (hb : rightP l s x = b) :
    Calls Try.prog 16 #[v, x.val] w fun e w' => e = .returned (.bool b) ∧ Below w.heap.size w w' := by
  obtain ⟨a, n, c, rfl, hg⟩ := id h
  have hn := hg.1.2.1
  have hm := hg.1.1
  unfold maxLen at hm
  have K := Lib.hid (GP.start x h)
  have HB := Lib.hid hb
  have HN := Lib.hid hn
  clear h hg hb hn
  unfold Ptr.cells at K
  simp only [Ptr.val, Ptr.cells]
  obtain ⟨⟨ag0, ag1⟩, ⟨aa0, aa1⟩, ⟨bg0, bg1⟩, ⟨ba0, ba1⟩, ⟨sz0, sz1⟩, ⟨lv0, lv1⟩, ⟨bi0, bi1⟩, hq⟩ := hx
  by_cases hr : 0 ≤ x.lv ∧ x.lv ≤ 3 ∧ 1 ≤ x.bi ∧ x.bi ≤ 4294967295
  · obtain ⟨r0, r1, r2, r3⟩ := id hr
    have HR := Lib.hid (show decide (rangeP x) = true from decide_eq_true hr)
    clear hr
    go_enter Try.func16, Try.ntmps16
    cases hA : mayL l s x.ag x.aa x.sz with
    | false =>
      have HA := Lib.hid hA
      clear hA
      go_wp2_with fail
      refine (may_any l s _ _ K.out.h.m x.ag x.aa x.sz ⟨ag0, ag1⟩ ⟨aa0, aa1⟩ ⟨sz0, sz1⟩ false HA.out).mono ?_
      rintro e w1 ⟨rfl, b1⟩
      have K1 := Lib.hid (K.out.next b1)
      clear b1 K
      go_wp2
      go_ret
      exact ⟨by rw [← HB.out, rightP, HA.out, Bool.and_false, Bool.false_and]; rfl, K1.out.h.below⟩
    | true =>
      obtain ⟨hrm, ⟨k, hk, hkl⟩, z1, z4, a0, a1, t0, t1⟩ := mayL_facts hA
      obtain ⟨kk, u, hlk, hok⟩ : ∃ kk u, l[k] = (kk, u) ∧ okG (kk, u) = true := ⟨l[k].1, l[k].2, rfl, hrm.all k hkl⟩
      obtain ⟨g, o, rfl, hlt, e0, e1⟩ := K.out.h.at_ hkl hlk
      have HT : Hid (takesG (kk, u) x.sz = tk l x.ag x.sz) := Lib.hid (by rw [tk, hk, Int.toNat_natCast, getD_at hkl, hlk])
      have hkn : k < n := by rw [← HN.out]; exact hkl
      have HLK := Lib.hid hlk
      have HK := Lib.hid hk
      have HOK := Lib.hid hok
      have HA := Lib.hid hA
      have HRM := Lib.hid hrm
      clear hA hrm hlk hok e0 e1 hlt hk
      go_wp2_with fail
      refine (may_any l s _ _ K.out.h.m x.ag x.aa x.sz ⟨ag0, ag1⟩ ⟨aa0, aa1⟩ ⟨sz0, sz1⟩ true HA.out).mono ?_
      rintro e w1 ⟨rfl, b1⟩
      have K1 := Lib.hid (K.out.next b1)
      clear b1 K
      obtain ⟨⟨g0, g1, _, _, _⟩, ⟨c0, c1, c2, c3, c4, c5, c6, c7, c8, c9, c10, c11, hlt⟩⟩ := id K1.out
      by_cases ht : x.two = true
      · rw [ht] at c4
        cases hB : mayL l s x.bg x.ba x.sz with
        | false =>
          have HBB := Lib.hid hB
          clear hB
          have HT := Lib.hid ht
          clear ht
          go_wp2_with fail
          refine (may_any l s _ _ K1.out.h.m x.bg x.ba x.sz ⟨bg0, bg1⟩ ⟨ba0, ba1⟩ ⟨sz0, sz1⟩ false HBB.out).mono ?_
          rintro e w2 ⟨rfl, b2⟩
          have K2 := Lib.hid (K1.out.next b2)
          clear b2 K1 g0 g1 c0 c1 c2 c3 c4 c5 c6 c7 c8 c9 c10 c11 hlt
          go_wp2
          go_ret
          exact ⟨by rw [← HB.out, rightP, HT.out, HBB.out, if_pos rfl, Bool.false_and, Bool.and_false]; rfl, K2.out.h.below⟩
        | true =>
          obtain ⟨_, _, _, _, b0, b1, _, _⟩ := mayL_facts hB
          have HBB := Lib.hid hB
          clear hB
          have HTW := Lib.hid ht
          clear ht
          go_wp2_with fail
          refine (may_any l s _ _ K1.out.h.m x.bg x.ba x.sz ⟨bg0, bg1⟩ ⟨ba0, ba1⟩ ⟨sz0, sz1⟩ true HBB.out).mono ?_
          rintro e w2 ⟨rfl, b2⟩
          have K2 := Lib.hid (K1.out.next b2)
          clear b2 K1 g0 g1 c0 c1 c2 c3 c4 c5 c6 c7 c8 c9 c10 c11 hlt
          have HE : Hid (apartL l x.ag x.aa x.bg x.ba x.sz = b) := Lib.hid (by rw [← HB.out, rightP, HR.out, HA.out, HTW.out, HBB.out, if_pos rfl, Bool.true_and, Bool.true_and, Bool.true_and])
          unfold apartL at HE
          generalize tk l x.ag x.sz = q at HE HT t0 t1
          have CT : Hid (∀ y : Ext w2, Calls Try.prog 33 #[.agg #[.int .i64 kk, .int .i64 u], .int .i64 x.sz] y.v fun e w' => e = .returned (.int .i64 q) ∧ ∃ q' : Ext w2, w' = q'.v) :=
            Lib.hid (Ext.calls fun w' _ => refTakes_any kk u x.sz w' HOK.out z1 z4 q HT.out)
          go_wp2_with fail
          rw [HK.out]
          obtain ⟨⟨h0, h1, hl1, _, _⟩, ⟨d0, d1, d2, d3, d4, d5, d6, d7, d8, d9, d10, d11, hl2⟩⟩ := id K2.out
          have hat := K2.out.h.at2 hkl HLK.out
          obtain ⟨g', o', hgo, hl3, _, _⟩ := K2.out.h.at_ hkl HLK.out
          cases hgo
          rw [HK.out] at d0
          have f0 := fun y : Ext w2 => y.cell h0 hl1
          have f1 := fun y : Ext w2 => y.cell d0 hl2
          have f2 := fun y : Ext w2 => y.cell d5 hl2
          have f3 := fun y : Ext w2 => y.cell hat.1 hl3
          have f4 := fun y : Ext w2 => y.cell hat.2 hl3
          clear h0 h1 d0 d1 d2 d3 d4 d5 d6 d7 d8 d9 d10 d11 hat hl1 hl2 hl3
          dsimp only at f3 f4
          haveI hne : Nonempty (Ext w2) := Ext.some w2
          refine wp_region_family (Ext.v (W := w2)) (by kernel_rfl) (by kernel_rfl) ⟨⟨_, (Below.refl _ w2).drew⟩, rfl⟩ ?_
          repeat (go_big_quiet_step (first | (go_at_call 33; exact CT.out _)))
          refine wpQuiet_nil ?_
          rintro w7 ⟨⟨w8, h8⟩, rfl⟩
          have K3 := Lib.hid (K2.out.next h8)
          clear hne f0 f1 f2 f3 f4 h8 K2 CT
          obtain ⟨_, ⟨d0, d1, d2, d3, d4, d5, d6, d7, d8, d9, d10, d11, hl2⟩⟩ := id K3.out
          by_cases e1 : x.ag = x.bg
          · rw [e1] at d0
            by_cases e2 : x.aa < x.ba + q
            · by_cases e3 : x.ba < x.aa + q
              · go_wp2
                go_ret
                exact ⟨by rw [← HE.out]; simp [e1]; omega, K3.out.h.below⟩
              · go_wp2
                go_ret
                exact ⟨by rw [← HE.out]; simp [e1]; omega, K3.out.h.below⟩
            · go_wp2
              go_ret
              exact ⟨by rw [← HE.out]; simp [e1]; omega, K3.out.h.below⟩
          · go_wp2
            go_ret
            exact ⟨by rw [← HE.out]; simp [e1], K3.out.h.below⟩
      · have ht' : x.two = false := by simpa using ht
        have HT := Lib.hid ht'
        rw [ht'] at c4
        clear ht ht'
        by_cases e1 : x.bg = 0
        · by_cases e2 : x.ba = 0
          · go_wp2
            go_ret
            exact ⟨by rw [← HB.out, rightP, HR.out, HA.out, HT.out]; simp [e1, e2], K1.out.h.below⟩
          · go_wp2
            go_ret
            exact ⟨by rw [← HB.out, rightP, HR.out, HA.out, HT.out]; simp [e2], K1.out.h.below⟩
        · go_wp2
          go_ret
          exact ⟨by rw [← HB.out, rightP, HR.out, HA.out, HT.out]; simp [e1], K1.out.h.below⟩
  · have hf : b = false := by rw [← HB.out, rightP_out hr]
    subst hf
    go_enter Try.func16, Try.ntmps16
    go_wp2
    all_goals (go_ret; exact ⟨rfl, K.out.h.below⟩)
end Go.Proofs.Ythpifplflhhkiaa
