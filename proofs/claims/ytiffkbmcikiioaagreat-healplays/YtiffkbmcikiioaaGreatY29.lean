/-
  code.Tries: a function that hands out what columns may come to.
  code.Tries of any columns.
  Columns as they are encoded: what they come to (no program is named here).
-/
import Derived.Test.YtiffkbmcikiioaaGreatY28
import Derived.Test.YtiffkbmcikiioaaGreatY15
import Derived.Test.YtiffkbmcikiioaaGreatY22
import Derived.Test.YtiffkbmcikiioaaGreatY24

/- code.Tries: a function that hands out what columns may come to. -/
namespace Go.Proofs.YtiffkbmcikiioaaGreat
set_option maxRecDepth 100000
open Go.RowKit Go.Shelf M

theorem HandsS.since {α : Type} {F : Fence} {n : Nat} {P : Program} {g : Nat} {lb : Array Value} {enc : α → Array Value} {xs : List α} {B B' : Nat} {w w' : World} (h : HandsS F n P g lb enc xs B w) (hB : B' ≤ B) (hs : Since B' w w') : HandsS F n P g lb enc xs B' w' :=
  fun l J Jx W hW hJ hJx hJS hY h0 => h l J Jx W ((hs.trans hW).mono hB) hJ hJx (fun k X hX => (hs.trans (hJS k X hX)).mono hB) hY h0
/-- The value v is a function that hands out xs. -/
def SeqT (B : Nat) (w : World) (v : Value) (xs : List (Int × ByteArray)) : Prop :=
  ∃ gf lb, v = .func (.func gf) #[] lb ∧ (∀ args w, (callFunc gf args).run Tryz.prog w = .ok (.enter gf args) w) ∧ ∀ n, 1 ≤ n → HandsS Fence.wide n Tryz.prog gf lb encT xs B w
theorem SeqT.since {B B' : Nat} {w w' : World} {v : Value} {xs : List (Int × ByteArray)} (h : SeqT B w v xs) (hB : B' ≤ B) (hs : Since B' w w') : SeqT B' w' v xs := by
  obtain ⟨gf, lb, e, h1, h2⟩ := h
  exact ⟨gf, lb, e, h1, fun n hn => (h2 n hn).since hB hs⟩

theorem tries1_hands (n : Nat) (_ : 1 ≤ n) (B : Nat) (w : World) : HandsS Fence.wide n Tryz.prog 67 #[] encT [] B w := fun l J Jx W hW hJ hJx hJS hY h0 => by
  refine callsIn_of_wp Tryz.func67 rfl trivial ?_ rfl
  simp only [Tryz.ntmps67, List.size_toArray, List.length_cons, List.length_nil, Nat.reduceAdd, Nat.reduceSub, Array.replicate_succ, Array.replicate_zero, List.push_toArray, List.append_toArray, List.nil_append, List.cons_append]
  have HJ0 := Lib.hid h0
  gi_wp2
  go_end0
  exact ⟨⟨_, rfl⟩, .inl HJ0.out⟩

theorem box_kept {w w' : World} {v : Value} {t : TypeId} {b : Nat} (hb : b = w.heap.size) (h : Below (w.alloc (.cells #[v] t)).heap.size (w.alloc (.cells #[v] t)) w') : w'.cell? ⟨b, 0, none⟩ = some v := by
  subst hb
  rw [h.cell (p := ⟨w.heap.size, 0, none⟩) (by simp), World.cell?_alloc_new]
  rfl
theorem box_now (w : World) (v : Value) (t : TypeId) {b : Nat} (hb : b = w.heap.size) : (w.alloc (.cells #[v] t)).cell? ⟨b, 0, none⟩ = some v := box_kept hb (Below.refl _ _)
/-- append(v, zs...), numbers. -/
theorem wpList_append_ints {ops : Array Oper} {rest : List Oper} {o : Oper} {a : Act} {Q : Exit → Act → World → Prop} (w : World) (hgd : o.guard = none) (s x : Operand)
    (ho : o.op = .call { callee := .builtin .append, args := #[s, x], argTypes := #[71, 71] }) (B : Nat) (v : Value) (l m : List Int) (g n c' : Nat) (hs : a.eval s = v) (hx : a.eval x = .slice (some ⟨g, 0, none⟩) n c')
    (hv : OwnI B w v l) (hm : m.length = n) (hc : ∀ j (h : j < m.length), w.cell? ⟨g, j, none⟩ = some (.int .i64 m[j])) (hB : B ≤ w.heap.size) (hN : l.length + n ≤ 100000)
    (h : ∀ v' w', OwnI B w' v' (l ++ m) → Below B w w' → w.heap.size ≤ w'.heap.size → wpList Tryz.prog ops Q rest (a.put o.dst v') w') : wpList Tryz.prog ops Q (o :: rest) a w := by
  obtain ⟨i, hi, hz, hsz, hb⟩ := infoI
  subst hm
  refine wpList_append_own_at w hgd s x _ ho B 3 i _ 1 8 Tryz.underlying71 hi hz hsz hb rfl (by decide) v l.length (l.map (Value.int .i64)) hs hv ⟨g, 0, none⟩ m.length c' (m.map (Value.int .i64)) hx (by simp) (fun j u hj => ?_) (fun u hu => ?_) (by unfold maxLen; omega) (by omega) hB fun v' w' h1 h2 _ _ => ?_
  · have hlt : j < m.length := by simpa using (List.getElem?_eq_some_iff.1 hj).1
    rw [Go.WideShapes.add_plain, Nat.zero_add, hc j hlt, ← hj, List.getElem?_map, List.getElem?_eq_getElem hlt]
    rfl
  · obtain ⟨y, _, rfl⟩ := List.mem_map.1 hu; rfl
  · refine h v' w' ?_ ((Below.refl B w).grown h2 hB fun k hk => (World.ownsRow.lt hv k hk).1) h2.size
    unfold OwnI
    rw [List.length_append, List.map_append]
    exact h1
theorem own_oneI (w : World) (B : Nat) (y : Int) (hB : B ≤ w.heap.size) : OwnI B (w.alloc (.cells #[.int .i64 y] 3)) (.slice (some ⟨w.heap.size, 0, none⟩) 1 1) [y] := by
  have := World.ownsRow_lit (base := B) (e := 3) (size := 1) w #[.int .i64 y] 1 hB (by decide) (by simp)
  simpa [OwnI] using this
theorem ofMirror_any (w : World) (B : Nat) (vL vG : Value) (u z : Nat) (L : List C) (G : List ByteArray) (hV : OwnC B w vL L) (hT : Own w B vG G) (hB : B ≤ w.heap.size) (hz1 : 1 ≤ z) (hz4 : z ≤ 4) (hu1 : 1 ≤ u) (hu8 : u ≤ 8) (hL : L.length = u * z) (hG : G.length = u * z) (hs : ∀ s ∈ G, s.size ≤ 1000) :
    Calls Tryz.prog 69 #[vL, .int .i64 (z : Int), vG] w fun e w' => ∃ v', e = .returned v' ∧ SeqT B w' v' (triesM L G u z) ∧ Below w.heap.size w w' := by
  have HV := Lib.hid hV
  have HT := Lib.hid hT
  obtain ⟨aL, cL, rfl⟩ := hV.none
  obtain ⟨aG, cG, eG, -⟩ := hT.txt
  subst eG
  obtain ⟨nL, hnL⟩ : ∃ n, L.length = n := ⟨_, rfl⟩
  obtain ⟨nG, hnG⟩ : ∃ n, G.length = n := ⟨_, rfl⟩
  have HH : Hid (∀ n, 1 ≤ n → ∀ w' b1 b2 b3, MirS w' B b1 b2 b3 (.slice aL nL cL) (.slice aG nG cG) z L G → HandsS Fence.wide n Tryz.prog 91 #[.pointer (some ⟨b1, 0, none⟩), .pointer (some ⟨b2, 0, none⟩), .pointer (some ⟨b3, 0, none⟩)] encT (triesM L G u z) B w') :=
    Lib.hid fun n hn w' b1 b2 b3 hM => mir1_hands n hn w' B b1 b2 b3 _ _ u z L G hM hz1 hz4 hu1 hu8 hL hG hs
  rw [hnL] at HV
  rw [hnG] at HT
  rw [hnL, hnG]
  clear hV hT hnL hnG hL hG hs
  go_enter Tryz.func69, Tryz.ntmps69
  go_wp2
  go_ret
  have bb : Below w.heap.size w (((w.alloc (.cells #[.slice aL nL cL] 66)).alloc (.cells #[.int .i64 (z : Int)] 3)).alloc (.cells #[.slice aG nG cG] 60)) := next (next (boxed _ _) (boxed _ _)) (boxed _ _)
  refine ⟨_, rfl, ⟨_, _, rfl, enters_of Tryz.func91 (by kernel_rfl) rfl, fun n hn => HH.out n hn _ _ _ _ ⟨?_, ?_, ?_, ⟨hB, by simp; omega⟩, ⟨by omega, by simp⟩, ⟨by omega, by simp⟩, HV.out.below bb, HT.out.below bb⟩⟩, bb⟩
  · exact box_kept rfl (next (boxed _ _) (boxed _ _))
  · exact box_kept (by simp) (boxed _ _)
  · exact box_now _ _ _ (by simp)

set_option maxHeartbeats 2000000 in
theorem ofParity_any (w : World) (B : Nat) (vL vG : Value) (L : List C) (G : List ByteArray) (hV : OwnC B w vL L) (hT : Own w B vG G) (hB : B ≤ w.heap.size) (h0 : 0 < L.length) (hl : L.length ≤ 32) (hH : Heads L) (hd : 0 < (datL L).length) (hp2 : Paired L) (hG : G.length = L.length) (hs : ∀ s ∈ G, s.size ≤ 1000) :
    Calls Tryz.prog 70 #[vL, vG] w fun e w' => ∃ v', e = .returned v' ∧ SeqT B w' v' (triesP L G (-1 :: devsS ((datL L).map C.dev))) ∧ Below w.heap.size w w' := by
  have HV := Lib.hid hV
  have HT := Lib.hid hT
  obtain ⟨aL, cL, rfl⟩ := hV.none
  obtain ⟨aG, cG, eG, -⟩ := hT.txt
  subst eG
  obtain ⟨nL, hnL⟩ : ∃ n, L.length = n := ⟨_, rfl⟩
  obtain ⟨nG, hnG⟩ : ∃ n, G.length = n := ⟨_, rfl⟩
  have HL0 := Lib.hid h0
  have HLL := Lib.hid hl
  obtain ⟨D, hD⟩ : ∃ D, devsS ((datL L).map C.dev) = D := ⟨_, rfl⟩
  have hDl : D.length ≤ 32 := by
    rw [← hD]
    refine Nat.le_trans (devsS_le _) ?_
    rw [List.length_map]
    unfold datL
    exact Nat.le_trans (List.length_filter_le _ _) hl
  rw [hD]
  have HH : Hid (∀ n, 1 ≤ n → ∀ w' b1 b2 b3 vD, ParS w' B b1 b2 b3 vD (.slice aL nL cL) (.slice aG nG cG) (-1 :: D) L G → HandsS Fence.wide n Tryz.prog 97 #[.pointer (some ⟨b1, 0, none⟩), .pointer (some ⟨b2, 0, none⟩), .pointer (some ⟨b3, 0, none⟩)] encT (triesP L G (-1 :: D)) B w') :=
    Lib.hid fun n hn w' b1 b2 b3 vD hM => par2_hands n hn w' B b1 b2 b3 _ _ _ _ L G hM (by simp) (by simp; omega) h0 (by omega) hp2 hG hs
  rw [hnL] at HV
  rw [hnG] at HT
  rw [hnL, hnG]
  have HHD := Lib.hid hH
  have HDA := Lib.hid hd
  have HD := Lib.hid hD
  have bb : Below w.heap.size w ((w.alloc (.cells #[.slice aL nL cL] 66)).alloc (.cells #[.slice aG nG cG] 60)) := next (boxed _ _) (boxed _ _)
  have HBB := Lib.hid bb
  have HCL := Lib.hid (clone_col L (.slice aL nL cL) _ (HV.out.v.next bb) h0 (by omega))
  clear hV hT hnL hnG hG hs hp2 hH hd hD bb h0 hl
  go_enter Tryz.func70, Tryz.ntmps70
  go_wp2_with fail
  refine HCL.out.mono ?_
  rintro e w1 ⟨v1, rfl, ho1, b1⟩
  have HB1 : Hid (Below w.heap.size w w1) := Lib.hid (next HBB.out b1)
  have HDF := Lib.hid (delete_any w1 _ v1 L ho1 b1.size (by have := HLL.out; omega) HHD.out)
  obtain ⟨a1, c1, e1⟩ := ho1.none
  generalize L.length = n1 at e1
  subst e1
  go_wp2_with fail
  refine HDF.out.mono ?_
  rintro e w2 ⟨v2, rfl, hV2, b2⟩
  have bd : Below w2.heap.size w2 (w2.alloc (.cells #[.int .i64 (-1)] 3)) := boxed _ _
  have hB2 : Below w1.heap.size w1 w2 ∨ True := .inr trivial
  have HW2 : Hid (Below w.heap.size w w2) := Lib.hid (HBB.out.trans ((b1.trans b2).mono HBB.out.size))
  have HDV := Lib.hid (devs_cols _ v2 (datL L) (hV2.next bd) HDA.out (by unfold datL; have := HLL.out; have := List.length_filter_le (fun x : C => !x.par) L; omega) D HD.out)
  obtain ⟨a2, n2, c2, rfl, -⟩ := id hV2
  obtain ⟨w0, hw0⟩ : ∃ w0, (w.alloc (.cells #[.slice aL nL cL] 66)).alloc (.cells #[.slice aG nG cG] 60) = w0 := ⟨_, rfl⟩
  have hs0 : w0.heap.size = w.heap.size + 2 := by rw [← hw0]; simp
  rw [hw0] at b1 b2
  have HW0 := Lib.hid hw0
  have HW02 : Hid (Below w0.heap.size w0 w2) := Lib.hid (b1.trans b2)
  clear b1 b2 HDF HCL ho1 hV2 HB1 HBB hB2 hw0
  go_wp2_with fail
  refine HDV.out.mono ?_
  rintro e w3 ⟨v3, rfl, hI3, b3⟩
  obtain ⟨a3, n3, c3, rfl, hn3, hc3, hj3⟩ := hI3
  have hD0 : 0 < D.length := by rw [← HD.out]; exact devsS_pos (by rw [List.length_map]; exact HDA.out)
  obtain ⟨g3, rfl, hg3, -⟩ := hj3 0 hD0
  have HC3 : Hid (∀ j (h : j < D.length), w3.cell? ⟨g3, j, none⟩ = some (.int .i64 D[j])) := Lib.hid fun j hj => by
    obtain ⟨g', e, _, hx⟩ := hj3 j hj
    cases e
    exact hx
  have HW3 := Lib.hid (next HW2.out (next bd b3))
  have HW03 := Lib.hid (next HW02.out (next bd b3))
  have HO3 := Lib.hid ((own_oneI w2 w0.heap.size (-1) HW02.out.size).below b3)
  have hs3 := HW03.out.size
  have HN3 := Lib.hid hn3
  have hn32 : n3 ≤ 32 := by omega
  clear hj3 hD0 bd b3 hn3
  go_wp2_with (at_builtin; refine wpList_append_ints _ rfl _ _ rfl w0.heap.size _ [-1] D g3 n3 c3 rfl rfl HO3.out HN3.out HC3.out hs3 (by simp; omega) ?_; intro v4 w4 hO4 b04 s4; obtain ⟨a4, n4, c4, e4, -⟩ := hO4.v; subst e4)
  go_ret
  have bw4 : Below w.heap.size w w4 := HW3.out.trans (b04.mono (by omega))
  have b5 := boxed w4 (.cells #[.slice a4 n4 c4] 71)
  have b6 := next bw4 b5
  have b7 : Below w0.heap.size w0 (w4.alloc (.cells #[.slice a4 n4 c4] 71)) := next (HW03.out.trans b04) b5
  have s7 := b7.size
  refine ⟨_, rfl, ⟨_, _, rfl, enters_of Tryz.func97 (by kernel_rfl) rfl, fun n hn => HH.out n hn _ _ _ _ _ ⟨box_now _ _ _ rfl, ?_, ?_, ⟨Nat.le_trans hB bw4.size, by simp⟩, ⟨hB, by omega⟩, ⟨by omega, by omega⟩, (hO4.below b5).lower (by omega), HV.out.below b6, HT.out.below b6⟩⟩, b6⟩
  · refine box_kept (t := 66) rfl ?_
    rw [← HW0.out] at b7
    exact next (boxed _ _) b7
  · refine box_kept (w := w.alloc (.cells #[.slice aL nL cL] 66)) (t := 60) (by simp) ?_
    rw [← HW0.out] at b7
    exact b7
end Go.Proofs.YtiffkbmcikiioaaGreat

/- code.Tries of any columns. -/
namespace Go.Proofs.YtiffkbmcikiioaaGreat
set_option maxRecDepth 100000
open Go.RowKit Go.Shelf M

/-- Each data column has another one in its row, told by rows and parities alone. -/
def pairedB (M : List (Int × Bool)) : Bool := M.all fun x => x.2 || decide (2 ≤ M.countP fun y => y.1 == x.1)
theorem paired_of {L : List C} (h : pairedB (L.map rp) = true) : Paired L := by
  intro a ha hp
  rw [idx_count (p := fun x : C => x.row == rowAt L a) L (fun j hj => by rw [rowAt_eq hj]) L.length (Nat.le_refl _), List.take_length]
  unfold pairedB at h
  rw [List.all_eq_true] at h
  have h1 := h (rp L[a]) (List.mem_map_of_mem (List.getElem_mem ha))
  rw [parAt_eq ha] at hp
  rw [rowAt_eq ha]
  simp only [rp, hp, Bool.false_or, decide_eq_true_iff, List.countP_map] at h1
  exact h1
theorem par_paired : ∀ u : Nat, u < 9 → 3 ≤ u → ∀ z : Nat, z < 5 → 1 ≤ z → pairedB ((parTo 0 0 u z).map rp) = true := by decide
theorem parTo_paired (f : Int) (t u z : Nat) (h3 : 3 ≤ u) (h8 : u ≤ 8) (z1 : 1 ≤ z) (z4 : z ≤ 4) : Paired (parTo f t u z) := paired_of (by rw [parTo_shape]; exact par_paired u (by omega) h3 z (by omega) z1)

/-- The kind of a block's group, and how wide it is. -/
structure Kinded (l : List (Int × Int)) (k t z : Nat) (kk : Int) (u : Nat) (L : List C) : Prop where
  grp : l.getD k (0, 0) = (kk, (u : Int))
  ok : (kk = 0 ∧ 1 ≤ u ∧ u ≤ 8 ∧ L = mirL (aheadL l k) t u z ∧ L.length = u * z) ∨ (kk = 1 ∧ 3 ≤ u ∧ u ≤ 8 ∧ L = parTo (aheadL l k) t u z ∧ Paired L)
theorem Blk.kinded {l : List (Int × Int)} {s : Int} {k t z : Nat} (h : Blk l s k t z) : ∃ kk u, Kinded l k t z kk u (colsOf l k t z) := by
  have hk := h.hk
  obtain ⟨kk, u, hlk, hok⟩ : ∃ kk u, l[k] = (kk, u) ∧ okG (kk, u) = true := ⟨l[k].1, l[k].2, rfl, h.right.all k hk⟩
  obtain ⟨u0, rfl⟩ := Int.eq_ofNat_of_zero_le (show 0 ≤ u by have := okG_wide hok; omega)
  have hg : l.getD k (0, 0) = (kk, (u0 : Int)) := by rw [getD_at hk, hlk]
  refine ⟨kk, u0, hg, ?_⟩
  unfold colsOf
  rw [hg]
  rcases okG_cases hok with ⟨rfl, h1, h2⟩ | ⟨rfl, h1, h2⟩
  · left
    have e : colsG (aheadL l k) (0, (u0 : Int)) t z = mirL (aheadL l k) t u0 z := by unfold colsG; rw [if_pos rfl]; simp
    rw [e]
    exact ⟨rfl, by omega, by omega, rfl, mirL_len _ _ _ _⟩
  · right
    have e : colsG (aheadL l k) (1, (u0 : Int)) t z = parTo (aheadL l k) t u0 z := by unfold colsG; rw [if_neg Int.one_ne_zero]; simp
    rw [e]
    exact ⟨rfl, by omega, by omega, rfl, parTo_paired _ _ _ _ (by omega) (by omega) h.z1 h.z4⟩
theorem Blk.data {l : List (Int × Int)} {s : Int} {k t z : Nat} (h : Blk l s k t z) : z ≤ (datL (colsOf l k t z)).length := by
  have hk := h.hk
  obtain ⟨kk, u, hlk, hok⟩ : ∃ kk u, l[k] = (kk, u) ∧ okG (kk, u) = true := ⟨l[k].1, l[k].2, rfl, h.right.all k hk⟩
  have hw := okG_wide hok
  obtain ⟨u0, rfl⟩ := Int.eq_ofNat_of_zero_le (show 0 ≤ u by omega)
  obtain ⟨R, hR⟩ := h.rowed hlk
  rw [hR.datas]
  split
  · exact Nat.le_mul_of_pos_right _ (by omega)
  · exact Nat.le_refl _

/-- What columns may come to. -/
def triesB (l : List (Int × Int)) (k t z : Nat) (G : List ByteArray) : List (Int × ByteArray) :=
  if (l.getD k (0, 0)).1 = 0 then triesM (colsOf l k t z) G (l.getD k (0, 0)).2.toNat z else triesP (colsOf l k t z) G (-1 :: devsS ((datL (colsOf l k t z)).map C.dev))
def triesOf (l : List (Int × Int)) (sc k t z : Int) (G : List ByteArray) : List (Int × ByteArray) := if fitsL l sc k t z G then triesB l k.toNat t.toNat z.toNat G else []
theorem fit_small {G : List ByteArray} (h : fitL G = true) : ∀ s ∈ G, s.size ≤ 1000 := by
  intro s hs
  unfold fitL at h
  rw [List.all_eq_true] at h
  have := h s hs
  unfold secT at this
  rw [Bool.or_eq_true, beq_iff_eq, beq_iff_eq] at this
  omega

set_option maxHeartbeats 2000000 in
theorem tries_any (l : List (Int × Int)) (sc : Int) (v : Value) (w : World) (h : Meas w v l sc) (k t z : Int) (hk : I64 k) (ht : I64 t) (hz : I64 z) (G : List ByteArray) (vG : Value) (hG : Txt w vG G) (hm : G.length ≤ 100000) :
    Calls Tryz.prog 37 #[v, .agg #[.int .i64 k, .int .i64 t], .int .i64 z, vG] w fun e w' => ∃ v', e = .returned v' ∧ SeqT w.heap.size w' v' (triesOf l sc k t z G) ∧ Below w.heap.size w w' := by
  have K1 := h
  obtain ⟨a, n, c, rfl, hg⟩ := id h
  replace K1 := Lib.hid (HeldP.start k t K1)
  have HC := Lib.hid (fitting_any l sc _ _ K1.out.h.m k t z hk ht hz G vG (hG.below K1.out.h.below) hm)
  have HG := Lib.hid hG
  obtain ⟨aG, cG, eG, -⟩ := hG
  generalize hn : G.length = nG at eG hm
  subst eG
  have HN := Lib.hid hn
  clear h hg hk ht hz hn
  go_enter Tryz.func37, Tryz.ntmps37
  go_wp2_with fail
  refine HC.out.mono ?_
  rintro e w1 ⟨v1, ok, rfl, ⟨hok, hyes, a1, n1, c1, rfl⟩, b1⟩
  have K2 := Lib.hid (K1.out.next b1)
  have hs1 := b1.size
  cases ok with
  | false =>
    have HT : Hid (triesOf l sc k t z G = []) := Lib.hid (by unfold triesOf; rw [← hok]; rfl)
    clear hok hyes b1
    go_wp2
    go_ret
    rw [HT.out]
    exact ⟨_, rfl, ⟨_, _, rfl, enters_of Tryz.func67 (by kernel_rfl) rfl, fun n hn => tries1_hands n hn _ _⟩, K2.out.h.below⟩
  | true =>
    obtain ⟨k', t', z', rfl, rfl, rfl, hB, hl, hf, hO⟩ := hyes rfl
    have HT : Hid (triesOf l sc k' t' z' G = triesB l k' t' z' G) := Lib.hid (by unfold triesOf; rw [← hok]; rfl)
    have hO' : OwnC w.heap.size w1 (.slice a1 n1 c1) (colsOf l k' t' z') := hO.lower K1.out.h.below.size
    have HO := Lib.hid hO'
    have hG0 : 0 < G.length := by rw [← hl]; exact hB.laid.pos
    have HCL := Lib.hid (clone_txt G _ w1 (HG.out.below K2.out.h.below) hG0 (by rw [HN.out]; exact hm))
    have HB := Lib.hid hB
    have HL := Lib.hid hl
    have HF := Lib.hid hf
    obtain ⟨kk, u, hK⟩ := hB.kinded
    have hkl := hB.hk
    have hlk : l[k'] = (kk, (u : Int)) := by rw [← getD_at hkl]; exact hK.grp
    have HLK : Hid (∃ h : k' < l.length, l[k'] = (kk, (u : Int))) := Lib.hid ⟨hkl, hlk⟩
    have HK := Lib.hid hK
    obtain ⟨z1, z4⟩ := And.intro hB.z1 hB.z4
    have hkk : kk = 0 ∨ kk = 1 := by rcases hK.ok with h | h; exact .inl h.1; exact .inr h.1
    have hnl := K2.out.h.len
    have hkn : k' < n := by rw [← hnl.1]; exact hkl
    have hk4 := hB.bounds.2
    have hn9 := hnl.2
    clear hok hyes b1 hO hO' hB hl hf hK hkl hlk hG0 hnl K1
    go_wp2_with fail
    refine HCL.out.mono ?_
    rintro e w2 ⟨v2, rfl, hO2, b2⟩
    have K3 := Lib.hid (K2.out.next b2)
    have HO2 := Lib.hid (hO2.lower (B' := w.heap.size) K2.out.h.below.size)
    have HO1 := Lib.hid (HO.out.below b2)
    obtain ⟨a2, c2, e2, -⟩ := hO2.txt
    have HBB := Lib.hid K3.out.h.below
    generalize G.length = n2 at e2
    subst e2
    clear hO2 b2 K2 HO
    obtain ⟨hh, p0, p1, plt⟩ := K3.out
    obtain ⟨g, o, rfl, hlt, e0, e1⟩ := hh.at_ HLK.out.1 HLK.out.2
    have c0 := hh.c0
    dsimp only at e0 e1
    clear hh
    rcases hkk with rfl | rfl
    · go_wp2_with fail
      refine (ofMirror_any _ w.heap.size _ _ u z' (colsOf l k' t' z') G HO1.out HO2.out HBB.out.size z1 z4 ?_ ?_ ?_ ?_ (fit_small HF.out)).mono ?_
      · rcases HK.out.ok with h | h
        · exact h.2.1
        · exact absurd h.1 (by decide)
      · rcases HK.out.ok with h | h
        · exact h.2.2.1
        · exact absurd h.1 (by decide)
      · rcases HK.out.ok with h | h
        · exact h.2.2.2.2
        · exact absurd h.1 (by decide)
      · rw [← HL.out]
        rcases HK.out.ok with h | h
        · exact h.2.2.2.2
        · exact absurd h.1 (by decide)
      · rintro e w5 ⟨v5, rfl, hS, b5⟩
        have HS : Hid (SeqT w.heap.size w5 v5 (triesOf l sc k' t' z' G)) := Lib.hid (by
          rw [HT.out, triesB, HK.out.grp, if_pos rfl]
          exact hS)
        obtain ⟨gf, lb, rfl, _⟩ := id hS
        go_wp2
        go_ret
        exact ⟨_, rfl, HS.out, next HBB.out b5⟩
    · go_wp2_with fail
      refine (ofParity_any _ w.heap.size _ _ (colsOf l k' t' z') G HO1.out HO2.out HBB.out.size HB.out.laid.pos HB.out.laid.few HB.out.heads (Nat.lt_of_lt_of_le HB.out.z1 HB.out.data) ?_ HL.out.symm (fit_small HF.out)).mono ?_
      · rcases HK.out.ok with h | h
        · exact absurd h.1 (by decide)
        · exact h.2.2.2.2
      · rintro e w5 ⟨v5, rfl, hS, b5⟩
        have HS : Hid (SeqT w.heap.size w5 v5 (triesOf l sc k' t' z' G)) := Lib.hid (by
          rw [HT.out, triesB, HK.out.grp, if_neg Int.one_ne_zero]
          exact hS)
        obtain ⟨gf, lb, rfl, _⟩ := id hS
        go_wp2
        go_ret
        exact ⟨_, rfl, HS.out, next HBB.out b5⟩
end Go.Proofs.YtiffkbmcikiioaaGreat

/- Columns as they are encoded: what they come to (no program is named here). -/
namespace Go.Proofs.YtiffkbmcikiioaaGreat
set_option maxRecDepth 100000
open Go.RowKit M

/-- What the laws ask of a block's columns. -/
structure Sound (L : List C) : Prop where
  data : ∀ a, a < L.length → parAt L a = true → idx (fun j => !parAt L j && rowAt L j == rowAt L a) L.length ≠ []
def soundB (M : List (Int × Bool)) : Bool := M.all fun x => !x.2 || M.any fun y => !y.2 && y.1 == x.1
theorem sound_of {L : List C} (h : soundB (L.map rp) = true) : Sound L := ⟨fun a ha hp he => by
  unfold soundB at h
  rw [List.all_eq_true] at h
  have h1 := h (rp L[a]) (List.mem_map_of_mem (List.getElem_mem ha))
  rw [parAt_eq ha] at hp
  simp only [rp, hp, Bool.not_true, Bool.false_or, List.any_map, List.any_eq_true] at h1
  obtain ⟨x, hx, hx2⟩ := h1
  obtain ⟨j, hj, rfl⟩ := List.getElem_of_mem hx
  have : j ∈ idx (fun j => !parAt L j && rowAt L j == rowAt L a) L.length := idx_mem.2 ⟨hj, by rw [parAt_eq hj, rowAt_eq hj, rowAt_eq ha]; exact hx2⟩
  rw [he] at this
  cases this⟩
theorem par_sound : ∀ u : Nat, u < 9 → 3 ≤ u → ∀ z : Nat, z < 5 → 1 ≤ z → soundB ((parTo 0 0 u z).map rp) = true := by decide
theorem Blk.sound {l : List (Int × Int)} {s : Int} {k t z : Nat} (h : Blk l s k t z) : Sound (colsOf l k t z) := by
  obtain ⟨kk, u, hK⟩ := h.kinded
  rcases hK.ok with ⟨_, _, _, e, _⟩ | ⟨_, h3, h8, e, _⟩
  · rw [e]
    refine ⟨fun a ha hp => ?_⟩
    rw [parAt_eq ha, mirL_get _ _ _ h.z1] at hp
    cases hp
  · rw [e]
    exact sound_of (by rw [parTo_shape]; exact par_sound u (by omega) h3 z (by have := h.z4; omega) h.z1)

section
variable {L : List C} {f : Nat → ByteArray}
theorem rowD_sz (hf : ∀ i, (f i).size = 64) {r : Int} {k : Nat} : ∀ s ∈ rowD L f r k, s.size = 64 := by
  intro s hs
  obtain ⟨j, _, rfl⟩ := List.mem_map.1 hs
  exact hf _
theorem enc_size (hS : Sound L) (hf : ∀ i, (f i).size = 64) (a : Nat) (ha : a < L.length) : (encAt L f a).size = 64 := by
  unfold encAt
  cases hp : parAt L a with
  | true =>
    have hne : rowD L f (rowAt L a) L.length ≠ [] := by
      unfold rowD
      intro e
      exact hS.data a ha hp (List.map_eq_nil_iff.1 e)
    rw [if_pos rfl, (mk_ok (ok_of (rowD_sz hf) hne)).1, parB_size, wide_of (rowD_sz hf) hne]
  | false => rw [if_neg (by simp)]; exact hf _
theorem encL_size (hS : Sound L) (hf : ∀ i, (f i).size = 64) : ∀ s ∈ encL L f, s.size = 64 := by
  intro s hs
  obtain ⟨a, ha, rfl⟩ := List.mem_map.1 hs
  exact enc_size hS hf a (List.mem_range.1 ha)

/-- The data columns' texts, in their order, are the sectors. -/
theorem data_map (g : Nat → ByteArray) : ∀ k, k ≤ L.length → (idx (fun j => !parAt L j) k).map (fun j => g (dct L j)) = (List.range (dct L k)).map g := by
  intro k
  induction k with
  | zero => intro _; simp [idx, dct]
  | succ k ih =>
    intro hk
    have hd := dct_succ (L := L) (k := k) (by omega)
    rw [← parAt_eq (by omega : k < L.length)] at hd
    cases hp : parAt L k with
    | true =>
      rw [hp] at hd
      rw [idx_no (by simp [hp]), ih (by omega), hd]
      rfl
    | false =>
      rw [hp] at hd
      rw [idx_yes (by simp [hp]), List.map_append, ih (by omega), hd]
      simp [List.range_succ]

/-- How many parities a row has among the first k. -/
def pcN (L : List C) (r : Int) (k : Nat) : Nat := (idx (fun j => parAt L j && rowAt L j == r) k).length
theorem row_col (r : Int) (i : Nat) : ∀ k, k ≤ L.length → colx (rowG L (encL L f) r k) i = colx (rowD L f r k) i ^^^ (if pcN L r k % 2 = 1 then (mkB (rowD L f r L.length)).data.toList.getD i 0 else 0) := by
  intro k
  induction k with
  | zero => intro _; simp [rowG, rowD, idx, pcN, colx]
  | succ k ih =>
    intro hk
    have ih := ih (by omega)
    by_cases hr : rowAt L k = r
    · rw [rowG_yes hr, colx_append, colx_one, ih, encL_getD L f k (by omega)]
      cases hp : parAt L k with
      | true =>
        have hpc : pcN L r (k + 1) = pcN L r k + 1 := by unfold pcN; rw [idx_yes (by simp [hp, hr]), List.length_append]; rfl
        rw [rowD_no (.inl hp), hpc]
        have he : encAt L f k = mkB (rowD L f r L.length) := by unfold encAt; rw [hp, if_pos rfl, hr]
        rw [he, UInt8.xor_assoc]
        congr 1
        rcases Nat.mod_two_eq_zero_or_one (pcN L r k) with h | h
        · rw [if_neg (by omega), if_pos (by omega), UInt8.zero_xor]
        · rw [if_pos h, if_neg (by omega), UInt8.xor_self]
      | false =>
        have hpc : pcN L r (k + 1) = pcN L r k := by unfold pcN; rw [idx_no (by simp [hp])]
        rw [rowD_yes hp hr, colx_append, colx_one, hpc]
        have he : encAt L f k = f (dct L k) := by unfold encAt; rw [hp]; rfl
        rw [he, UInt8.xor_assoc, UInt8.xor_assoc]
        congr 1
        exact UInt8.xor_comm _ _
    · have hpc : pcN L r (k + 1) = pcN L r k := by unfold pcN; rw [idx_no (by simp [hr])]
      rw [rowG_no hr, rowD_no (.inr hr), hpc]
      exact ih
theorem row_zero (hf : ∀ i, (f i).size = 64) {r : Int} (h1 : pcN L r L.length = 1) (hne : rowD L f r L.length ≠ []) {i : Nat} (hi : i < 64) : colx (rowG L (encL L f) r L.length) i = 0 := by
  rw [row_col r i L.length (Nat.le_refl _), h1, if_pos rfl, (mk_ok (ok_of (rowD_sz hf) hne)).1, parB_at _ _ (by rw [wide_of (rowD_sz hf) hne]; exact hi), UInt8.xor_self]
/-- A column is made again by the others of its row, where these are as they are encoded. -/
theorem agn_eq (hS : Sound L) (hf : ∀ i, (f i).size = 64) {G : List ByteArray} {a : Nat} (ha : a < L.length) (h2 : 2 ≤ (idx (fun j => rowAt L j == rowAt L a) L.length).length) (h1 : pcN L (rowAt L a) L.length = 1) (hne : rowD L f (rowAt L a) L.length ≠ [])
    (hG : ∀ j, j < L.length → rowAt L j = rowAt L a → j ≠ a → G.getD j ⟨#[]⟩ = encAt L f j) : agn L G a = encAt L f a := by
  obtain ⟨r, hr, hm⟩ := idx_split (q := fun j => rowAt L j == rowAt L a) (a := a) (by simp) L.length ha
  have hO : (rowG L G (rowAt L a) L.length).eraseIdx (rowG L G (rowAt L a) a).length = (idx (fun j => rowAt L j == rowAt L a) a ++ r).map (encAt L f) := by
    unfold rowG
    rw [hr, List.length_map, List.map_append, List.map_cons, List.eraseIdx_append_of_length_le (by simp), List.length_map, Nat.sub_self, List.eraseIdx_zero, List.tail_cons, ← List.map_append]
    apply List.map_congr_left
    intro j hj
    rcases List.mem_append.1 hj with h | h
    · obtain ⟨h3, h4⟩ := idx_mem.1 h
      exact hG j (by omega) (by simpa using h4) (by omega)
    · obtain ⟨h3, h4, h5⟩ := hm j h
      exact hG j h4 (by simpa using h5) (by omega)
  have hsz : ∀ s ∈ (idx (fun j => rowAt L j == rowAt L a) a ++ r).map (encAt L f), s.size = 64 := by
    intro s hs
    obtain ⟨j, hj, rfl⟩ := List.mem_map.1 hs
    rcases List.mem_append.1 hj with h | h
    · exact enc_size hS hf j (Nat.lt_trans (idx_mem.1 h).1 ha)
    · exact enc_size hS hf j (hm j h).2.1
  have hn : (idx (fun j => rowAt L j == rowAt L a) a ++ r).map (encAt L f) ≠ [] := by
    intro e
    have e' := List.map_eq_nil_iff.1 e
    obtain ⟨e1, e2⟩ := List.append_eq_nil_iff.1 e'
    rw [hr, e1, e2] at h2
    simp at h2
  unfold agn
  rw [hO, (mk_ok (ok_of hsz hn)).1]
  refine parB_eq (by rw [wide_of hsz hn, enc_size hS hf a ha]) fun i hi => ?_
  rw [wide_of hsz hn] at hi
  have hz := row_zero hf h1 hne hi
  have hrow : rowG L (encL L f) (rowAt L a) L.length = (idx (fun j => rowAt L j == rowAt L a) a).map (encAt L f) ++ (encAt L f a :: r.map (encAt L f)) := by
    unfold rowG
    rw [hr, List.map_append, List.map_cons, encL_getD L f a ha]
    congr 1
    · apply List.map_congr_left
      intro j hj
      exact encL_getD L f j (Nat.lt_trans (idx_mem.1 hj).1 ha)
    · congr 1
      apply List.map_congr_left
      intro j hj
      exact encL_getD L f j (hm j hj).2.1
  rw [hrow, colx_append, colx_cons] at hz
  rw [List.map_append, colx_append]
  generalize colx ((idx (fun j => rowAt L j == rowAt L a) a).map (encAt L f)) i = x at hz ⊢
  generalize colx (r.map (encAt L f)) i = y at hz ⊢
  generalize (encAt L f a).data.toList.getD i 0 = e at hz ⊢
  have : x ^^^ y ^^^ e = 0 := by rw [← hz, UInt8.xor_assoc, UInt8.xor_comm y e]
  rwa [UInt8.xor_eq_zero_iff] at this
end

/-- The data as it was read, a device's made again, are the sectors. -/
theorem wth_eq {L : List C} {f : Nat → ByteArray} {G : List ByteArray} {d : Int}
    (h : ∀ j, j < L.length → parAt L j = false → (if devAt L j = d then agn L G j else G.getD j ⟨#[]⟩) = encAt L f j) : wth L G d L.length = (List.range (dct L L.length)).map f := by
  rw [← data_map f L.length (Nat.le_refl _)]
  unfold wth
  apply List.map_congr_left
  intro j hj
  obtain ⟨h1, h2⟩ := idx_mem.1 hj
  have h3 : parAt L j = false := by simpa using h2
  rw [h j h1 h3]
  unfold encAt
  rw [h3]
  rfl

/-- A block, its text, and its columns' texts. -/
structure Enc7 (l : List (Int × Int)) (sc : Int) (k t z : Nat) (s : ByteArray) (kk : Int) (u : Nat) (L : List C) (f : Nat → ByteArray) : Prop where
  blk : Blk l sc k t z
  hL : colsOf l k t z = L
  kind : Kinded l k t z kk u L
  hs : s.size = z * 64
  hf : ∀ i, (f i).size = 64
  sec : ∀ i, i < z → f i = sect s i
  mod : ∀ d i, i < z → f (d * z + i) = sect s i
  enc : encOf l k t z s = encL L f
  sound : Sound L
  rows : ∃ R, Rowed kk u z L R
theorem Blk.enc7 {l : List (Int × Int)} {sc : Int} {k t z : Nat} (h : Blk l sc k t z) {s : ByteArray} (hs : s.size = z * 64) : ∃ kk u, Enc7 l sc k t z s kk u (colsOf l k t z) fun i => sect s (i % z) := by
  obtain ⟨kk, u, hK⟩ := h.kinded
  have hk := h.hk
  have hlk : l[k] = (kk, (u : Int)) := by rw [← getD_at hk]; exact hK.grp
  exact ⟨kk, u, h, rfl, hK, hs, fun i => sect_size hs (Nat.mod_lt _ h.z1), fun i hi => by show sect s (i % z) = _; rw [Nat.mod_eq_of_lt hi],
    fun d i hi => by show sect s ((d * z + i) % z) = _; rw [Nat.add_comm, Nat.add_mul_mod_self_right, Nat.mod_eq_of_lt hi], rfl, h.sound, h.rowed hlk⟩
section
variable {l : List (Int × Int)} {sc : Int} {k t z : Nat} {s : ByteArray} {kk : Int} {u : Nat} {L : List C} {f : Nat → ByteArray}
theorem Enc7.fits (h : Enc7 l sc k t z s kk u L f) {G : List ByteArray} (hl : G.length = L.length) (hG : ∀ x ∈ G, x.size = 0 ∨ x.size = 64) : fitsL l sc k t z G = true := by
  unfold fitsL
  rw [mayL_iff.2 ⟨k, t, z, rfl, rfl, rfl, h.blk⟩]
  have e : colsI l k t z = L := h.hL
  rw [e, Bool.true_and, Bool.and_eq_true, decide_eq_true_iff]
  refine ⟨hl.symm, ?_⟩
  unfold fitL
  rw [List.all_eq_true]
  intro x hx
  unfold secT
  rw [Bool.or_eq_true, beq_iff_eq, beq_iff_eq]
  exact hG x hx
theorem Enc7.few (h : Enc7 l sc k t z s kk u L f) : 0 < L.length ∧ L.length ≤ 32 := by rw [← h.hL]; exact ⟨h.blk.laid.pos, h.blk.laid.few⟩
theorem Enc7.tries (h : Enc7 l sc k t z s kk u L f) {G : List ByteArray} (hl : G.length = L.length) (hG : ∀ x ∈ G, x.size = 0 ∨ x.size = 64) : triesOf l sc k t z G = if kk = 0 then triesM L G u z else triesP L G (-1 :: devsS ((datL L).map C.dev)) := by
  unfold triesOf
  rw [h.fits hl hG, if_pos rfl]
  show triesB l k t z G = _
  unfold triesB
  rw [h.kind.grp, h.hL]
  rfl
/-- All sectors, one behind the other. -/
theorem Enc7.joined (h : Enc7 l sc k t z s kk u L f) : joinB ((List.range z).map f) = s := by
  rw [List.map_congr_left (g := sect s) fun i hi => h.sec i (List.mem_range.1 hi)]
  exact join_sect h.hs
theorem Enc7.full (h : Enc7 l sc k t z s kk u L f) (g : Nat → ByteArray) (hg : ∀ i, i < z → g i = f i) : holeL ((List.range z).map g) = false := by
  unfold holeL
  rw [List.any_eq_false]
  intro x hx
  obtain ⟨i, hi, rfl⟩ := List.mem_map.1 hx
  rw [hg i (List.mem_range.1 hi), h.hf]
  decide
theorem Enc7.dataN (h : Enc7 l sc k t z s kk u L f) (h1 : kk = 1) : dct L L.length = z := by
  obtain ⟨R, hR⟩ := h.rows
  rw [dct_all, hR.datas, if_neg (by rw [h1]; decide)]
theorem count_congr {α : Type} {p q : α → Bool} (l : List α) (h : ∀ x ∈ l, p x = q x) : l.countP p = l.countP q := List.countP_congr fun x hx => by rw [h x hx]
theorem Enc7.one (h : Enc7 l sc k t z s kk u L f) (h1 : kk = 1) {a : Nat} (ha : a < L.length) : pcN L (rowAt L a) L.length = 1 := by
  obtain ⟨R, hR⟩ := h.rows
  obtain ⟨r0, r1⟩ := hR.in_ a ha
  obtain ⟨r, hr⟩ := Int.eq_ofNat_of_zero_le r0
  have hp := hR.pars r (by omega)
  rw [h1] at hp
  unfold pcN
  rw [rowAt_eq ha, idx_count (p := fun x : C => x.par && x.row == L[a].row) L (fun j hj => by rw [parAt_eq hj, rowAt_eq hj]) L.length (Nat.le_refl _), List.take_length]
  have : L.countP (fun x => x.par && x.row == L[a].row) = L.countP (fun x => decide (x.row = (r : Int)) && x.par) := count_congr L fun x _ => by
    rw [hr, Bool.and_comm]; congr 1
  omega
theorem Enc7.rowNe (h : Enc7 l sc k t z s kk u L f) (_ : kk = 1) {a : Nat} (ha : a < L.length) : rowD L f (rowAt L a) L.length ≠ [] := by
  intro e
  have e' := List.map_eq_nil_iff.1 e
  cases hp : parAt L a with
  | true => exact h.sound.data a ha hp e'
  | false =>
    have : a ∈ idx (fun j => !parAt L j && rowAt L j == rowAt L a) L.length := idx_mem.2 ⟨ha, by simp [hp]⟩
    rw [e'] at this
    cases this
theorem Enc7.pair (h : Enc7 l sc k t z s kk u L f) (h1 : kk = 1) : Paired L := by
  rcases h.kind.ok with h2 | h2
  · exact absurd (h1.symm.trans h2.1) (by decide)
  · exact h2.2.2.2.2
/-- A data column made again. -/
theorem Enc7.agn (h : Enc7 l sc k t z s kk u L f) (h1 : kk = 1) {G : List ByteArray} {a : Nat} (ha : a < L.length) (hp : parAt L a = false) (hG : ∀ j, j < L.length → rowAt L j = rowAt L a → j ≠ a → G.getD j ⟨#[]⟩ = encAt L f j) : agn L G a = encAt L f a :=
  agn_eq h.sound h.hf ha (h.pair h1 a ha hp) (h.one h1 ha) (h.rowNe h1 ha) hG
theorem Enc7.tryP (h : Enc7 l sc k t z s kk u L f) (h1 : kk = 1) {G : List ByteArray} {d : Int}
    (hw : ∀ j, j < L.length → parAt L j = false → (if devAt L j = d then Proofs.YtiffkbmcikiioaaGreat.agn L G j else G.getD j ⟨#[]⟩) = encAt L f j) : tryOf d (wth L G d L.length) = some (d, s) := by
  unfold tryOf
  rw [wth_eq hw, h.dataN h1, h.full f fun _ _ => rfl, h.joined]
  rfl
/-- A Mirror's columns. -/
theorem Enc7.mir (h : Enc7 l sc k t z s kk u L f) (h0 : kk = 0) : L = mirL (aheadL l k) t u z ∧ L.length = u * z ∧ 1 ≤ u ∧ u ≤ 8 := by
  rcases h.kind.ok with h2 | h2
  · exact ⟨h2.2.2.2.1, h2.2.2.2.2, h2.2.1, h2.2.2.1⟩
  · exact absurd (h0.symm.trans h2.1) (by decide)
theorem Enc7.noPar (h : Enc7 l sc k t z s kk u L f) (h0 : kk = 0) {j : Nat} (hj : j < L.length) : parAt L j = false := by
  rw [parAt_eq hj]
  obtain ⟨e, _⟩ := h.mir h0
  subst e
  rw [mirL_get _ _ _ h.blk.z1]
theorem Enc7.dctM (h : Enc7 l sc k t z s kk u L f) (h0 : kk = 0) : ∀ j, j ≤ L.length → dct L j = j := by
  intro j
  induction j with
  | zero => intro _; simp [dct]
  | succ j ih =>
    intro hj
    rw [dct_succ hj, ← parAt_eq hj, h.noPar h0 hj, ih (by omega)]
    rfl
theorem Enc7.encM (h : Enc7 l sc k t z s kk u L f) (h0 : kk = 0) {j : Nat} (hj : j < L.length) : encAt L f j = f j := by
  unfold encAt
  rw [h.noPar h0 hj, h.dctM h0 j (Nat.le_of_lt hj)]
  rfl
theorem Enc7.devM (h : Enc7 l sc k t z s kk u L f) (h0 : kk = 0) {j : Nat} (hj : j < L.length) : devAt L j = aheadL l k + (j / z : Nat) := by
  rw [devAt_eq hj]
  obtain ⟨e, _⟩ := h.mir h0
  subst e
  rw [mirL_get _ _ _ h.blk.z1]
theorem chunk_map {G : List ByteArray} {u z d : Nat} (hG : G.length = u * z) (hd : d < u) : chunk G z d = (List.range z).map fun i => G.getD (d * z + i) ⟨#[]⟩ := by
  have hl := chunk_len hG hd
  have hb : d * z + z ≤ u * z := by rw [← Nat.succ_mul]; exact Nat.mul_le_mul_right _ hd
  apply List.ext_getElem
  · rw [hl]; simp
  · intro i h1 h2
    have h3 : i < z := by rw [← hl]; exact h1
    have hi : d * z + i < G.length := by rw [hG]; omega
    have e : (chunk G z d)[i]? = some G[d * z + i] := by
      unfold chunk
      rw [List.getElem?_take, if_pos h3, List.getElem?_drop, List.getElem?_eq_getElem hi]
    rw [List.getElem?_eq_getElem h1] at e
    rw [Option.some.inj e, List.getElem_map, List.getElem_range, List.getD_eq_getElem?_getD, List.getElem?_eq_getElem hi]
    rfl
/-- A device of a Mirror that has all of the block. -/
theorem Enc7.tryM (h : Enc7 l sc k t z s kk u L f) (h0 : kk = 0) {G : List ByteArray} (hG : G.length = L.length) {d : Nat} (hd : d < u) (hw : ∀ i, i < z → G.getD (d * z + i) ⟨#[]⟩ = encAt L f (d * z + i)) : tryOf (devAt L (d * z)) (chunk G z d) = some (aheadL l k + (d : Int), s) := by
  obtain ⟨_, hl, _⟩ := h.mir h0
  have hb : d * z + z ≤ u * z := by rw [← Nat.succ_mul]; exact Nat.mul_le_mul_right _ hd
  have hz := h.blk.z1
  have e : chunk G z d = (List.range z).map f := by
    rw [chunk_map (by rw [hG, hl]) hd]
    apply List.map_congr_left
    intro i hi
    have hi := List.mem_range.1 hi
    rw [hw i hi, h.encM h0 (by rw [hl]; omega), h.mod d i hi, h.sec i hi]
  unfold tryOf
  rw [e, h.full f fun _ _ => rfl, h.joined, h.devM h0 (by rw [hl]; omega), Nat.mul_div_cancel _ hz]
  rfl
end
end Go.Proofs.YtiffkbmcikiioaaGreat
