/-
  The document's Look (polderref10): the first try that has the sum.
-/
import Derived.Test.YtiffkbmcikiioaaGreatY43
import Derived.Test.YtiffkbmcikiioaaGreatJr
import Derived.Test.YtiffkbmcikiioaaGreatJf
import Derived.Test.YtiffkbmcikiioaaGreatY06
import Derived.Test.YtiffkbmcikiioaaGreatY10
import Derived.Deep.DeepCutAuto
namespace Go.Proofs.YtiffkbmcikiioaaGreat
set_option maxRecDepth 100000
open Go.RowKit M

/-- What the document's Look answers. -/
def refV (q : Q) (T : Nat → List (Int × ByteArray)) (R : Nat → List ByteArray) (n : Nat) : Value :=
  match lookTo q T n with
  | some (i, d, s) => .tuple #[.string s, .int .i64 (i : Int), .int .i64 d, .int .i64 0]
  | none => .tuple #[.string ⟨#[]⟩, .int .i64 0, .int .i64 0, .int .i64 (if lostTo R n then 6 else 4)]
theorem refV_some {q : Q} {T : Nat → List (Int × ByteArray)} {R : Nat → List ByteArray} {n i : Nat} {d : Int} {s : ByteArray} (h : lookTo q T n = some (i, d, s)) : refV q T R n = .tuple #[.string s, .int .i64 (i : Int), .int .i64 d, .int .i64 0] := by
  unfold refV; rw [h]
theorem refV_none {q : Q} {T : Nat → List (Int × ByteArray)} {R : Nat → List ByteArray} {n : Nat} (h : lookTo q T n = none) : refV q T R n = .tuple #[.string ⟨#[]⟩, .int .i64 0, .int .i64 0, .int .i64 (if lostTo R n then 6 else 4)] := by
  unfold refV; rw [h]
theorem tries_le40 (l : List (Int × Int)) (sc k t z : Int) (G : List ByteArray) : (triesOf l sc k t z G).length ≤ 40 := by
  unfold triesOf
  split
  · rename_i hf
    unfold fitsL at hf
    simp only [Bool.and_eq_true, decide_eq_true_iff] at hf
    obtain ⟨k', t', z', rfl, rfl, rfl, hB⟩ := mayL_iff.1 hf.1.1
    show (triesB l k' t' z' G).length ≤ 40
    unfold triesB
    split
    · unfold triesM
      refine Nat.le_trans (List.length_filterMap_le _ _) ?_
      rw [List.length_range]
      obtain ⟨kk, u, hK⟩ := hB.kinded
      rw [hK.grp]
      show (u : Int).toNat ≤ 40
      rcases hK.ok with ⟨_, _, h8, _⟩ | ⟨_, _, h8, _⟩ <;> omega
    · unfold triesP
      refine Nat.le_trans (List.length_filterMap_le _ _) ?_
      rw [List.length_cons]
      have h1 := devsS_le ((datL (colsOf l k' t' z')).map C.dev)
      rw [List.length_map] at h1
      have h2 : (datL (colsOf l k' t' z')).length ≤ (colsOf l k' t' z').length := by unfold datL; exact List.length_filter_le _ _
      have h3 := hB.laid.few
      omega
  · exact Nat.zero_le _
theorem q_ext {x y : Q} (h : (x.a : Int) = y.a ∧ (x.b : Int) = y.b ∧ (x.c : Int) = y.c ∧ (x.d : Int) = y.d) : x = y := by
  obtain ⟨a, b, c, d⟩ := x
  obtain ⟨a', b', c', d'⟩ := y
  obtain ⟨h0, h1, h2, h3⟩ := h
  dsimp only at h0 h1 h2 h3
  rw [Q.mk.injEq]
  omega
theorem two_places (W : World) (p : Ptr) : PlA (W.alloc (.cells #[.int .i64 p.ag, .int .i64 p.aa, .int .i64 p.bg, .int .i64 p.ba] 26)) W.heap.size p := by
  refine ⟨by simp, fun j hj => ?_⟩
  have := nP_le p
  rcases (by omega : j = 0 ∨ j = 1) with rfl | rfl
  · exact ⟨by simp [atP], by simp [atP]⟩
  · exact ⟨by simp [atP], by simp [atP]⟩
/-- The document's Tries of a place, whose columns fit. -/
theorem refTries_at {l : List (Int × Int)} {sc : Int} {p : Ptr} {z : Nat} (hp : PR l sc p z) {v : Value} {W : World} (h : Meas W v l sc) {R : Nat → List ByteArray} {j : Nat} (hj : j < nP p) {vR : Value} (hR : Txt W vR (R j)) (hf : (R j).length = (LL l p z j).length ∧ SecSz (R j)) :
    Calls Tryz.prog 48 #[v, .agg #[.int .i64 (kN p j : Int), .int .i64 (tN p j : Int)], .int .i64 p.sz, vR] W fun e w' => ∃ v', e = .returned v' ∧ OwnT W.heap.size w' v' (TT l sc p z R j) ∧ Below W.heap.size W w' := by
  obtain ⟨_, hb⟩ := hp.blk j hj
  obtain ⟨kk, u, hE⟩ := hb.enc7 (zeros_sz z)
  have e : TT l sc p z R j = triesB l (kN p j) (tN p j) z (R j) := by
    unfold TT triesOf
    rw [hE.fits hf.1 hf.2, if_pos rfl]
    rfl
  rw [e, hp.sz]
  exact refTries_any l sc v W h (kN p j) (tN p j) z hb (R j) vR hR hf.1 hf.2
theorem tries_sz {l : List (Int × Int)} {sc : Int} {p : Ptr} {z : Nat} (hp : PR l sc p z) {R : Nat → List ByteArray} {j : Nat} (hj : j < nP p) (hf : (R j).length = (LL l p z j).length ∧ SecSz (R j)) : ∀ y ∈ TT l sc p z R j, y.2.size = z * 64 := by
  obtain ⟨_, hb⟩ := hp.blk j hj
  obtain ⟨kk, u, hE⟩ := hb.enc7 (zeros_sz z)
  exact hE.trySz hf.1 hf.2
theorem hole_take {l : List ByteArray} {k : Nat} (hk : k < l.length) : holeL (l.take (k + 1)) = (holeL (l.take k) || l[k].size == 0) := by
  unfold holeL
  rw [List.take_add_one, List.getElem?_eq_getElem hk, List.any_append]
  simp
set_option maxHeartbeats 4000000 in
theorem refLook_any (l : List (Int × Int)) (sc : Int) (v : Value) (w : World) (h : Meas w v l sc) (p : Ptr) (z : Nat) (hp : PR l sc p z) (R : Nat → List ByteArray) (gR cR : Nat)
    (hR : ∀ j, j < nP p → ∃ vj, w.cell? ⟨gR, j, none⟩ = some vj ∧ Txt w vj (R j)) (hf : ∀ j, j < nP p → (R j).length = (LL l p z j).length ∧ SecSz (R j)) :
    Calls Tryz.prog 21 #[v, p.val, .slice (some ⟨gR, 0, none⟩) (nP p) cR] w fun e w' => e = .returned (refV p.q (TT l sc p z R) R (nP p)) ∧ Below w.heap.size w w' := by
  obtain ⟨a, n, c, rfl, hg⟩ := id h
  have K1 := Lib.hid (GP.start p h)
  have HR := Lib.hid hR
  have HF := Lib.hid hf
  have HP := Lib.hid hp
  clear h hg hR hf
  unfold Ptr.cells at K1
  simp only [Ptr.val, Ptr.cells]
  obtain ⟨N, hN⟩ : ∃ N, nP p = N := ⟨_, rfl⟩
  have hN2 : N ≤ 2 := by rw [← hN]; exact nP_le p
  have HN := Lib.hid hN
  rw [hN]
  clear hN
  obtain ⟨⟨g0, g1, _, _, _⟩, ⟨c0, c1, c2, c3, c4, c5, c6, c7, c8, c9, c10, c11, hlt⟩⟩ := id K1.out
  have HZ4 := Lib.hid (HP.out.blk 0 (nP_pos p)).2.z4
  have hgg := sum_guard
  have hqq := sum_equal
  go_enter Tryz.func21, Tryz.ntmps21
  go_wp2_with fail
  have hb2 := boxed ((w.alloc (.cells #[.slice a n c, .int .i64 sc] 24)).alloc (.cells #[.int .i64 p.ag, .int .i64 p.aa, .int .i64 p.bg, .int .i64 p.ba, .bool p.two, .int .i64 p.sz, .int .i64 p.lv, .int .i64 p.bi, .int .u64 p.q.a, .int .u64 p.q.b, .int .u64 p.q.c, .int .u64 p.q.d] 31)) (.cells #[.int .i64 p.ag, .int .i64 p.aa, .int .i64 p.bg, .int .i64 p.ba] 26)
  have hpl := two_places ((w.alloc (.cells #[.slice a n c, .int .i64 sc] 24)).alloc (.cells #[.int .i64 p.ag, .int .i64 p.aa, .int .i64 p.bg, .int .i64 p.ba, .bool p.two, .int .i64 p.sz, .int .i64 p.lv, .int .i64 p.bi, .int .u64 p.q.a, .int .u64 p.q.b, .int .u64 p.q.c, .int .u64 p.q.d] 31)) p
  have K2 := Lib.hid (K1.out.next hb2)
  have hs2 : ((w.alloc (.cells #[.slice a n c, .int .i64 sc] 24)).alloc (.cells #[.int .i64 p.ag, .int .i64 p.aa, .int .i64 p.bg, .int .i64 p.ba, .bool p.two, .int .i64 p.sz, .int .i64 p.lv, .int .i64 p.bi, .int .u64 p.q.a, .int .u64 p.q.b, .int .u64 p.q.c, .int .u64 p.q.d] 31)).heap.size = w.heap.size + 1 + 1 := by simp
  rw [hs2] at hpl
  obtain ⟨bp, hbp⟩ : ∃ bp, w.heap.size + 1 + 1 = bp := ⟨_, rfl⟩
  rw [hbp] at hpl ⊢
  obtain ⟨W2, hW2⟩ : ∃ W2, ((w.alloc (.cells #[.slice a n c, .int .i64 sc] 24)).alloc (.cells #[.int .i64 p.ag, .int .i64 p.aa, .int .i64 p.bg, .int .i64 p.ba, .bool p.two, .int .i64 p.sz, .int .i64 p.lv, .int .i64 p.bi, .int .u64 p.q.a, .int .u64 p.q.b, .int .u64 p.q.c, .int .u64 p.q.d] 31)).alloc (.cells #[.int .i64 p.ag, .int .i64 p.aa, .int .i64 p.bg, .int .i64 p.ba] 26) = W2 := ⟨_, rfl⟩
  rw [hW2] at hpl K2 ⊢
  have HPL := Lib.hid hpl
  clear hb2 hs2 hbp hpl hW2 K1 g0 g1 c0 c1 c2 c3 c4 c5 c6 c7 c8 c9 c10 c11 hlt
  go_loopw [11, 12] (fun mv iv wr => ∃ (j : Nat) (b : Bool), j ≤ N ∧ mv = .bool b ∧ iv = .int .i64 (j : Int) ∧ Hid (lostTo R j = b) ∧ Hid (lookTo p.q (TT l sc p z R) j = none) ∧ Below W2.heap.size W2 wr) (fun _ iv _ => N - (intOf iv).toNat)
  case atStart => exact ⟨0, false, Nat.zero_le _, rfl, rfl, Lib.hid rfl, Lib.hid rfl, Below.refl _ _⟩
  case round =>
    obtain ⟨j, b, hj, rfl, rfl, HLB, HLO, hbw⟩ := hrel
    rename World => wr
    have K := Lib.hid (K2.out.next hbw)
    have HBW := Lib.hid hbw
    by_cases hlt : j < N
    · have hjn : j < nP p := by rw [HN.out]; exact hlt
      obtain ⟨vj, hvc, htx⟩ := HR.out j hjn
      have hat := (HP.out.blk j hjn).1
      have hpl := (HPL.out.next hbw).2 j hjn
      rw [hat] at hpl
      obtain ⟨e0, e1⟩ := hpl
      have e2 := (K.out.h.below.cell (p := ⟨gR, j, none⟩) (World.block_lt_of_cell? w _ hvc)).trans hvc
      have htw := htx.below K.out.h.below
      obtain ⟨xs, hxs⟩ : ∃ xs, TT l sc p z R j = xs := ⟨_, rfl⟩
      have HTR := Lib.hid (refTries_at HP.out (W := wr.drew) (K.out.next (Below.refl _ wr).drew).h.m hjn htw.drew (HF.out j hjn))
      rw [hxs] at HTR
      have HSZ : Hid (∀ y ∈ xs, y.2.size = z * 64) := Lib.hid (by rw [← hxs]; exact tries_sz HP.out hjn (HF.out j hjn))
      have hX40 : xs.length ≤ 40 := by rw [← hxs]; exact tries_le40 _ _ _ _ _ _
      have HXS := Lib.hid hxs
      obtain ⟨X, hX⟩ : ∃ X, xs.length = X := ⟨_, rfl⟩
      rw [hX] at hX40
      have HXL := Lib.hid hX
      have HJN := Lib.hid hjn
      obtain ⟨aj, cj, rfl, hcj, hjj⟩ := htw
      obtain ⟨m, hm⟩ : ∃ m, (R j).length = m := ⟨_, rfl⟩
      have hm32 : m ≤ 32 := by
        rw [← hm, (HF.out j hjn).1]
        exact (HP.out.blk j hjn).2.laid.few
      have HM := Lib.hid hm
      have HJJ := Lib.hid hjj
      rw [hm] at e2 hcj HTR
      obtain ⟨⟨g0, g1, _, _, _⟩, ⟨c0, c1, c2, c3, c4, c5, c6, c7, c8, c9, c10, c11, hlt'⟩⟩ := id K.out
      have q1 : (j : Int) < (N : Int) := by omega
      have q2 : (0 : Int) ≤ (j : Int) := by omega
      have q3 : (j : Int) < 2 := by omega
      have dd : decide ((j : Int) < (N : Int)) = true := by simpa using hlt
      clear hat hvc htx hxs hX hjn hm hjj hbw c0 c1 c2 c3 c4 c6 c7 c8 c9 c10 c11
      have HE : Hid (∀ W, Below wr.heap.size wr W → (W.cell? ⟨w.heap.size, 0, none⟩ = some (.slice a n c) ∧ W.cell? ⟨w.heap.size, 1, none⟩ = some (.int .i64 sc) ∧ W.cell? ⟨bp, j * 2, none⟩ = some (.int .i64 (kN p j : Int)) ∧ W.cell? ⟨bp, j * 2 + 1, none⟩ = some (.int .i64 (tN p j : Int)) ∧ W.cell? ⟨w.heap.size + 1, 5, none⟩ = some (.int .i64 p.sz) ∧ W.cell? ⟨gR, j, none⟩ = some (.slice aj m cj))) := Lib.hid fun W hb =>
        ⟨(hb.cell (p := ⟨w.heap.size, 0, none⟩) (World.block_lt_of_cell? wr _ g0)).trans g0, (hb.cell (p := ⟨w.heap.size, 1, none⟩) (World.block_lt_of_cell? wr _ g1)).trans g1, (hb.cell (p := ⟨bp, j * 2, none⟩) (World.block_lt_of_cell? wr _ e0)).trans e0, (hb.cell (p := ⟨bp, j * 2 + 1, none⟩) (World.block_lt_of_cell? wr _ e1)).trans e1, (hb.cell (p := ⟨w.heap.size + 1, 5, none⟩) (World.block_lt_of_cell? wr _ c5)).trans c5, (hb.cell (p := ⟨gR, j, none⟩) (World.block_lt_of_cell? wr _ e2)).trans e2⟩
      go_wp2_with fail
      go_region_held3 (fun W => W.cell? ⟨w.heap.size, 0, none⟩ = some (.slice a n c) ∧ W.cell? ⟨w.heap.size, 1, none⟩ = some (.int .i64 sc) ∧ W.cell? ⟨bp, j * 2, none⟩ = some (.int .i64 (kN p j : Int)) ∧ W.cell? ⟨bp, j * 2 + 1, none⟩ = some (.int .i64 (tN p j : Int)) ∧ W.cell? ⟨w.heap.size + 1, 5, none⟩ = some (.int .i64 p.sz) ∧ W.cell? ⟨gR, j, none⟩ = some (.slice aj m cj))
        (first | exact ⟨g0, g1, e0, e1, c5, e2⟩ | exact ⟨z1, z2, z3, z4, z5, z6⟩)
        (first | (go_at_call 48; refine HTR.out.mono ?_; rintro e w9 ⟨v9, rfl, hO9, b9⟩; have HO9 := Lib.hid hO9; have HB9 := Lib.hid ((Below.refl _ wr).drew.trans b9); obtain ⟨z1, z2, z3, z4, z5, z6⟩ := HE.out w9 HB9.out; clear hO9 b9))
      obtain ⟨a9, cc9, e9⟩ := HO9.out.isSl
      subst e9
      have HO9' := HO9.out
      rw [HXL.out] at HO9'
      replace HO9 := Lib.hid HO9'
      rw [HXL.out]
      have HBK := Lib.hid (next HBW.out HB9.out)
      clear HO9' z1 z2 z3 z4 z5 z6 g0 g1 e0 e1 c5 e2 HTR
      go_wp2_with fail
      go_loopw [14] (fun kv wk => ∃ k : Nat, k ≤ X ∧ kv = .int .i64 (k : Int) ∧ Hid (∀ y ∈ xs.take k, sumB y.2 ≠ p.q) ∧ Below w9.heap.size w9 wk) (fun kv _ => X - (intOf kv).toNat)
      case atStart => exact ⟨0, Nat.zero_le _, rfl, Lib.hid (by simp), Below.refl _ _⟩
      case round =>
        obtain ⟨k, hk, rfl, HNO, hbk⟩ := hrel
        rename World => wk
        have HB2 := Lib.hid (next HBK.out hbk)
        have HBk := Lib.hid hbk
        have KK := Lib.hid (K2.out.next HB2.out)
        by_cases hkl : k < X
        · have hkx : k < xs.length := by rw [HXL.out]; exact hkl
          obtain ⟨y, hy⟩ : ∃ y, xs[k] = y := ⟨_, rfl⟩
          obtain ⟨gT, cT, eT, _, _, hgT, hcT⟩ := HO9.out.at_ (by omega)
          simp only [Value.slice.injEq] at eT
          obtain ⟨rfl, _, rfl⟩ := eT
          obtain ⟨t0, t1⟩ := hcT k hkx
          rw [hy] at t0 t1
          have t0' := (hbk.cell (p := ⟨gT, k * 2, none⟩) hgT).trans t0
          have t1' := (hbk.cell (p := ⟨gT, k * 2 + 1, none⟩) hgT).trans t1
          have hyz : y.2.size = z * 64 := HSZ.out y (by rw [← hy]; exact List.getElem_mem hkx)
          have HYX : Hid (xs[k]? = some y) := Lib.hid (by rw [List.getElem?_eq_getElem hkx, hy])
          have hz4 := HZ4.out
          have HSM := Lib.hid (fun W => refSum_any y.2 W (by omega))
          have hkg : gT < wk.heap.size := Nat.lt_of_lt_of_le hgT hbk.size
          obtain ⟨yd, yt⟩ := y
          obtain ⟨Q0, hQ0⟩ : ∃ Q0, sumQ zeroQ (wordsB yt) = Q0 := ⟨_, rfl⟩
          have HQ0 : Hid (sumB yt = Q0) := Lib.hid hQ0
          dsimp only at HSM t0' t1'
          rw [hQ0] at HSM
          obtain ⟨_, ⟨_, _, _, _, _, _, _, _, c8, c9, c10, c11, hlt'⟩⟩ := id KK.out
          have m1 := fun q : Ext wk => q.cell t1' hkg
          have m8 := fun q : Ext wk => q.cell c8 hlt'
          have m9 := fun q : Ext wk => q.cell c9 hlt'
          have m10 := fun q : Ext wk => q.cell c10 hlt'
          have m11 := fun q : Ext wk => q.cell c11 hlt'
          have CSM := Lib.hid (fun q : Ext wk => Ext.calls (W := wk) (fun w _ => HSM.out w) q)
          haveI hext : Nonempty (Ext wk) := Ext.some wk
          have r1 : (k : Int) < (X : Int) := by omega
          have r2 : (0 : Int) ≤ (k : Int) := by omega
          have dk : decide ((k : Int) < (X : Int)) = true := by simpa using hkl
          clear t0 t1 hcT hyz hQ0 hbk hy
          by_cases hs : Q0 = p.q
          · have he4 : eq4 (Q0.a : Int) Q0.b Q0.c Q0.d p.q.a p.q.b p.q.c p.q.d = true := by rw [hs]; exact eq4_true rfl rfl rfl rfl
            have HV : Hid (refV p.q (TT l sc p z R) R (nP p) = .tuple #[.string yt, .int .i64 (j : Int), .int .i64 yd, .int .i64 0]) := Lib.hid (refV_some (lookTo_stay (lookTo_hit HLO.out (by
              rw [HXS.out]
              exact hitQ_at HYX.out (by rw [HQ0.out]; exact hs) HNO.out)) _ HJN.out))
            clear hs
            go_wp2_with fail
            refine wp_region_family (Ext.v (W := wk)) (by kernel_rfl) (by kernel_rfl) ⟨⟨_, (Below.refl _ wk).drew⟩, rfl⟩ ?_
            repeat (go_big_quiet_step (first | (go_at_call 49; exact CSM.out _)))
            refine wpQuiet_nil ?_
            rintro w11 ⟨⟨w12, h12⟩, rfl⟩
            have t0'' := (h12.cell (p := ⟨gT, k * 2, none⟩) hkg).trans t0'
            have t1'' := (h12.cell (p := ⟨gT, k * 2 + 1, none⟩) hkg).trans t1'
            have HB12 := Lib.hid (next (next K2.out.h.below HB2.out) h12)
            clear m1 m8 m9 m10 m11 h12
            go_wp2_with fail
            go_quiet (fail)
            go_wp2
            (try simp only [Exit.inBlock, Exit.then])
            exact bodyPost_ret (v := .tuple #[.string yt, .int .i64 (j : Int), .int .i64 yd, .int .i64 0]) (by simp [results, Tryz.results21, go_sem]) rfl ⟨by rw [← HN.out, HV.out], below_drewN HB12.out _⟩
          · have he4 : eq4 (Q0.a : Int) Q0.b Q0.c Q0.d p.q.a p.q.b p.q.c p.q.d = false := eq4_false fun h => hs (q_ext h)
            have HN1 : Hid (∀ y ∈ xs.take (k + 1), sumB y.2 ≠ p.q) := Lib.hid fun y hy => by
              rw [List.take_add_one, HYX.out, List.mem_append] at hy
              rcases hy with hy | hy
              · exact HNO.out y hy
              · obtain rfl : y = (yd, yt) := by simpa using hy
                show sumB yt ≠ p.q
                rw [HQ0.out]
                exact hs
            clear hs
            go_wp2_with fail
            refine wp_region_family (Ext.v (W := wk)) (by kernel_rfl) (by kernel_rfl) ⟨⟨_, (Below.refl _ wk).drew⟩, rfl⟩ ?_
            repeat (go_big_quiet_step (first | (go_at_call 49; exact CSM.out _)))
            refine wpQuiet_nil ?_
            rintro w11 ⟨⟨w12, h12⟩, rfl⟩
            have HB12 := Lib.hid h12
            clear m1 m8 m9 m10 m11 h12
            go_wp2
            go_roundw
            case rel => exact ⟨k + 1, by omega, by go_num, HN1, next HBk.out HB12.out⟩
            case measure => simp [intOf]; omega
        · obtain rfl : X = k := by omega
          have HMISS : Hid (lookTo p.q (TT l sc p z R) (j + 1) = none) := Lib.hid (lookTo_miss HLO.out (by
            rw [HXS.out]
            refine hitQ_no fun y hy => HNO.out y ?_
            rw [List.take_of_length_le (by rw [HXL.out]; exact Nat.le_refl _)]
            exact hy))
          have dk : decide ((X : Int) < (X : Int)) = false := by simp
          clear hbk hkl
          go_wp2_with fail
          go_loopw [11, 15] (fun mv kv wk => ∃ (k : Nat) (b' : Bool), k ≤ m ∧ mv = .bool b' ∧ kv = .int .i64 (k : Int) ∧ Hid ((b || holeL ((R j).take k)) = b') ∧ Below w9.heap.size w9 wk) (fun _ kv _ => m - (intOf kv).toNat)
          case atStart => exact ⟨0, b, Nat.zero_le _, rfl, rfl, Lib.hid (by simp [holeL]), HBk.out⟩
          case round =>
            obtain ⟨k, b', hk, rfl, rfl, HB', hbk⟩ := hrel
            rename World => wq
            have HBq := Lib.hid hbk
            have hbr : Below wr.heap.size wr wq := next HB9.out hbk
            have e2 := (HE.out wq hbr).2.2.2.2.2
            by_cases hkl : k < m
            · have hkR : k < (R j).length := by rw [HM.out]; exact hkl
              obtain ⟨gx, ox, ea, hgx, hxc⟩ := HJJ.out k hkR
              subst ea
              obtain ⟨x, hx⟩ : ∃ x, (R j)[k] = x := ⟨_, rfl⟩
              rw [hx] at hxc
              have hxc' := (hbr.cell (p := ⟨gx, ox + k, none⟩) hgx).trans hxc
              have HST : Hid ((b || holeL ((R j).take (k + 1))) = (b' || x.size == 0)) := Lib.hid (by
                rw [hole_take hkR, ← Bool.or_assoc, HB'.out, hx])
              have r1 : (k : Int) < (m : Int) := by omega
              have r2 : (0 : Int) ≤ (k : Int) := by omega
              have dk2 : decide ((k : Int) < (m : Int)) = true := by simpa using hkl
              clear hx hxc hbk hbr hkR
              cases b' with
              | true =>
                go_wp2
                go_roundw
                case rel => exact ⟨k + 1, true, by omega, rfl, by go_num, Lib.hid (by rw [HST.out]; rfl), HBq.out⟩
                case measure => simp [intOf]; omega
              | false =>
                cases hx0 : (x.size == 0) with
                | true =>
                  have hxe : x.toList.isEmpty = true := by rw [empty_txt, hx0]
                  have hxn : x.toList = [] := List.isEmpty_iff.1 hxe
                  have HST2 : Hid ((b || holeL ((R j).take (k + 1))) = true) := Lib.hid (by rw [HST.out, hx0]; rfl)
                  have hxb : (x.toList == []) = true := by rw [hxn]; rfl
                  clear hx0 HST
                  go_wp2
                  go_roundw
                  case rel => exact ⟨k + 1, true, by omega, rfl, by go_num, HST2, HBq.out⟩
                  case measure => simp [intOf]; omega
                | false =>
                  have hxe : x.toList.isEmpty = false := by rw [empty_txt, hx0]
                  have hxn : ¬ x.toList = [] := fun e => by rw [e] at hxe; cases hxe
                  have HST2 : Hid ((b || holeL ((R j).take (k + 1))) = false) := Lib.hid (by rw [HST.out, hx0]; rfl)
                  have hxb : (x.toList == []) = false := by simpa using hxn
                  clear hx0 HST
                  go_wp2
                  go_roundw
                  case rel => exact ⟨k + 1, false, by omega, rfl, by go_num, HST2, HBq.out⟩
                  case measure => simp [intOf]; omega
            · obtain rfl : m = k := by omega
              have dk2 : decide ((m : Int) < (m : Int)) = false := by simp
              have HLB1 : Hid (lostTo R (j + 1) = b') := Lib.hid (by
                rw [← HB'.out]
                show (lostTo R j || holeL (R j)) = _
                rw [HLB.out, List.take_of_length_le (by rw [HM.out]; exact Nat.le_refl _)])
              clear hbk hbr hkl
              go_wp2
              go_roundw
              case rel => exact ⟨j + 1, b', by omega, rfl, by go_num, HLB1, HMISS, next HBK.out HBq.out⟩
              case measure => simp [intOf]; omega
    · obtain rfl : N = j := by omega
      have dd : decide ((N : Int) < (N : Int)) = false := by simp
      have HB := Lib.hid (next K2.out.h.below hbw)
      have HV : Hid (refV p.q (TT l sc p z R) R (nP p) = .tuple #[.string ⟨#[]⟩, .int .i64 0, .int .i64 0, .int .i64 (if b then 6 else 4)]) := Lib.hid (by
        rw [HN.out, refV_none HLO.out, HLB.out])
      clear hbw hlt
      cases b with
      | true =>
        go_wp2
        (try simp only [Exit.inBlock, Exit.then])
        exact bodyPost_ret (v := .tuple #[.string ⟨#[]⟩, .int .i64 0, .int .i64 0, .int .i64 6]) (by simp [results, Tryz.results21, go_sem]) rfl ⟨by rw [← HN.out, HV.out]; rfl, HB.out⟩
      | false =>
        go_wp2
        (try simp only [Exit.inBlock, Exit.then])
        exact bodyPost_ret (v := .tuple #[.string ⟨#[]⟩, .int .i64 0, .int .i64 0, .int .i64 4]) (by simp [results, Tryz.results21, go_sem]) rfl ⟨by rw [← HN.out, HV.out]; rfl, HB.out⟩
end Go.Proofs.YtiffkbmcikiioaaGreat
