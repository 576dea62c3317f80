/-
  The devices of a block's columns: how many there are.
  code.Tries: a function that hands out what columns may come to.
  Texts, and rows of texts, that are the call's own.
  code.Tries of any columns.
  Worlds that grew from a given one: a family for regions that draw their order.
  A region that draws its order, whose last operation may write what others read: an operation that yields its value wherever S holds may be taken first; S is to be shown behind each operation but that last one.
  code.Encode: a block's columns' texts.
  code.Encode, walked.
  code.Encode of any block.
  Columns as they are encoded: what they come to (no program is named here).
  few of the laws; code.Bad.
-/
import Derived.Test.YtpalgadokdcgnaaMc
import Derived.Test.YtpalgadokdcgnaaChecked
import Derived.OrdersHeld
import Derived.Deep.RegionHeld

/- The devices of a block's columns: how many there are. -/
namespace Go.Proofs.Ytpalgadokdcgnaa
set_option maxRecDepth 100000
open Go.RowKit

structure Devd (f kk : Int) (u z : Nat) (L : List C) (D : List Int) : Prop where
  in_ : ∀ j (h : j < D.length), f ≤ D[j] ∧ D[j] < f + u
  up : ∀ j (h : j + 1 < D.length), D[j] < D[j + 1]
  pos : 0 < D.length
  few : D.length ≤ 32
  mir : kk = 0 → D.length = u ∧ L.length = z * u
  par : kk = 1 → D.length = (if L.length < u then L.length else u) ∧ z < L.length ∧ (L.length : Int) ≤ takesG (kk, (u : Int)) z
theorem devd (f kk : Int) (u : Nat) (s : Int) (t z : Nat) (hok : okG (kk, (u : Int)) = true) (z1 : 1 ≤ z) (z4 : z ≤ 4) (fit : (t : Int) + takesG (kk, (u : Int)) z ≤ gives (kk, (u : Int)) s) :
    Devd f kk u z (colsG f (kk, (u : Int)) t z) (devsS ((colsG f (kk, (u : Int)) t z).map C.dev)) := by
  have hL := laid f kk u s t z hok z1 z4 fit
  obtain ⟨h1, h2⟩ := devsS_spec ((colsG f (kk, (u : Int)) t z).map C.dev)
  have hu8 := okG_wide hok
  dsimp only at hu8
  refine ⟨fun j h => ?_, fun j h => List.pairwise_iff_getElem.1 h1 j (j + 1) (by omega) h (by omega), devsS_pos (by rw [List.length_map]; exact hL.pos), Nat.le_trans (devsS_le _) (by rw [List.length_map]; exact hL.few), fun e => ?_, fun e => ?_⟩
  · obtain ⟨c, hc, e⟩ := List.mem_map.1 ((h2 _).1 (List.getElem_mem h))
    obtain ⟨i, hi, rfl⟩ := List.getElem_of_mem hc
    rw [← e]
    exact ⟨hL.dev0 i hi, hL.dev1 i hi⟩
  · subst e
    have e : colsG f (0, (u : Int)) t z = mirL f t u z := by unfold colsG; rw [if_pos rfl]; simp
    rw [e]
    have hzp : 0 < z := by omega
    refine ⟨devsS_run (f := f) fun x => ?_, by rw [mirL_len, Nat.mul_comm]⟩
    rw [List.mem_map]
    constructor
    · rintro ⟨c, hc, rfl⟩
      obtain ⟨i, hi, rfl⟩ := List.getElem_of_mem hc
      have a := hL.dev0
      have b := hL.dev1
      rw [e] at a b
      exact ⟨a i hi, b i hi⟩
    · rintro ⟨ha, hb⟩
      obtain ⟨d, hd⟩ := Int.eq_ofNat_of_zero_le (show 0 ≤ x - f by omega)
      have hdu : d < u := by omega
      have hj : d * z < (mirL f t u z).length := by
        rw [mirL_len]
        have : (d + 1) * z ≤ u * z := Nat.mul_le_mul_right z hdu
        rw [Nat.add_mul, Nat.one_mul] at this
        omega
      refine ⟨_, List.getElem_mem hj, ?_⟩
      rw [mirL_get f t z hzp u _ hj]
      show f + ((d * z / z : Nat) : Int) = x
      rw [Nat.mul_div_cancel _ hzp]
      omega
  · subst e
    have e : colsG f (1, (u : Int)) t z = parTo f t u z := by unfold colsG; rw [if_neg Int.one_ne_zero]; simp
    have hu3 : 3 ≤ u := by
      rcases okG_cases hok with ⟨h, _⟩ | ⟨_, h, _⟩
      · omega
      · omega
    rw [e]
    obtain ⟨p1, p2, p3⟩ := par_fits u (by omega) hu3 z (by omega) z1
    rw [← parTo_len0 f t u z] at p1 p2 p3
    refine ⟨?_, by omega, p2⟩
    by_cases hn : (parTo f t u z).length < u
    · rw [if_pos hn, devsS_nodup, List.length_map]
      rw [List.nodup_iff_pairwise_ne, List.pairwise_iff_getElem]
      intro i j hi hj hij
      rw [List.length_map] at hi hj
      rw [List.getElem_map, List.getElem_map]
      obtain ⟨r1, b1, e1⟩ := parTo_get f t u z i hi
      obtain ⟨r2, b2, e2⟩ := parTo_get f t u z j hj
      rw [e1, e2]
      intro ed
      have ed' : f + (((t + i) % u : Nat) : Int) = f + (((t + j) % u : Nat) : Int) := ed
      have e3 : (t + i) % u = (t + j) % u := by omega
      have h2 := Nat.div_add_mod (t + i) u
      have h3 := Nat.div_add_mod (t + j) u
      rw [e3] at h2
      have h4 : u * ((t + j) / u) = u * ((t + i) / u) + (j - i) := by omega
      rcases Nat.lt_or_ge ((t + i) / u) ((t + j) / u) with h5 | h5
      · have h6 : u * ((t + i) / u + 1) ≤ u * ((t + j) / u) := Nat.mul_le_mul_left u h5
        rw [Nat.mul_add, Nat.mul_one] at h6
        omega
      · have h6 : u * ((t + j) / u) ≤ u * ((t + i) / u) := Nat.mul_le_mul_left u h5
        omega
    · rw [if_neg hn]
      refine devsS_run (f := f) fun x => ?_
      rw [List.mem_map]
      constructor
      · rintro ⟨c, hc, rfl⟩
        obtain ⟨i, hi, rfl⟩ := List.getElem_of_mem hc
        have a := hL.dev0
        have b := hL.dev1
        rw [e] at a b
        exact ⟨a i hi, b i hi⟩
      · rintro ⟨ha, hb⟩
        obtain ⟨d, hd⟩ := Int.eq_ofNat_of_zero_le (show 0 ≤ x - f by omega)
        have hdu : d < u := by omega
        have hmt := Nat.mod_lt t (show 0 < u by omega)
        have hjm := Nat.mod_lt (d + (u - t % u)) (show 0 < u by omega)
        have hj : (d + (u - t % u)) % u < (parTo f t u z).length := by omega
        refine ⟨_, List.getElem_mem hj, ?_⟩
        obtain ⟨r1, b1, e1⟩ := parTo_get f t u z _ hj
        rw [e1]
        show f + (((t + (d + (u - t % u)) % u) % u : Nat) : Int) = x
        have e4 : (t + (d + (u - t % u)) % u) % u = d := by
          rw [Nat.add_mod, Nat.mod_mod, ← Nat.add_mod]
          have h2 := Nat.div_add_mod t u
          have e5 : t + (d + (u - t % u)) = d + u * (t / u + 1) := by rw [Nat.mul_add, Nat.mul_one]; omega
          rw [e5, Nat.add_mul_mod_self_left, Nat.mod_eq_of_lt hdu]
        rw [e4]
        omega
theorem Blk.devd {l : List (Int × Int)} {s : Int} {k t z : Nat} (h : Blk l s k t z) {kk : Int} {u : Nat} (hl : l[k]'h.hk = (kk, (u : Int))) : Devd (aheadL l k) kk u z (colsOf l k t z) (devsS ((colsOf l k t z).map C.dev)) := by
  have hk := h.hk
  have hok := h.right.all k hk
  have hf := h.fit
  unfold colsOf
  rw [getD_at hk, hl]
  rw [hl] at hok hf
  exact Proofs.Ytpalgadokdcgnaa.devd _ _ _ s _ _ hok h.z1 h.z4 hf
end Go.Proofs.Ytpalgadokdcgnaa

/- code.Tries: a function that hands out what columns may come to. -/
namespace Go.Proofs.Ytpalgadokdcgnaa
set_option maxRecDepth 100000
open Go.RowKit Go.Shelf M

theorem HandsS.since {α : Type} {F : Fence} {n : Nat} {P : Program} {g : Nat} {lb : Array Value} {enc : α → Array Value} {xs : List α} {B B' : Nat} {w w' : World} (h : HandsS F n P g lb enc xs B w) (hB : B' ≤ B) (hs : Since B' w w') : HandsS F n P g lb enc xs B' w' :=
  fun l J Jx W hW hJ hJx hJS hY h0 => h l J Jx W ((hs.trans hW).mono hB) hJ hJx (fun k X hX => (hs.trans (hJS k X hX)).mono hB) hY h0
/-- The value v is a function that hands out xs. -/
def SeqT (B : Nat) (w : World) (v : Value) (xs : List (Int × ByteArray)) : Prop :=
  ∃ gf lb, v = .func (.func gf) #[] lb ∧ (∀ args w, (callFunc gf args).run Try.prog w = .ok (.enter gf args) w) ∧ ∀ n, 1 ≤ n → HandsS Fence.wide n Try.prog gf lb encT xs B w
theorem SeqT.since {B B' : Nat} {w w' : World} {v : Value} {xs : List (Int × ByteArray)} (h : SeqT B w v xs) (hB : B' ≤ B) (hs : Since B' w w') : SeqT B' w' v xs := by
  obtain ⟨gf, lb, e, h1, h2⟩ := h
  exact ⟨gf, lb, e, h1, fun n hn => (h2 n hn).since hB hs⟩

theorem tries1_hands (n : Nat) (_ : 1 ≤ n) (B : Nat) (w : World) : HandsS Fence.wide n Try.prog 30 #[] encT [] B w := fun l J Jx W hW hJ hJx hJS hY h0 => by
  refine callsIn_of_wp Try.func30 rfl trivial ?_ rfl
  simp only [Try.ntmps30, List.size_toArray, List.length_cons, List.length_nil, Nat.reduceAdd, Nat.reduceSub, Array.replicate_succ, Array.replicate_zero, List.push_toArray, List.append_toArray, List.nil_append, List.cons_append]
  have HJ0 := Lib.hid h0
  gi_wp2
  go_end0
  exact ⟨⟨_, rfl⟩, .inl HJ0.out⟩

theorem box_kept {w w' : World} {v : Value} {t : TypeId} {b : Nat} (hb : b = w.heap.size) (h : Below (w.alloc (.cells #[v] t)).heap.size (w.alloc (.cells #[v] t)) w') : w'.cell? ⟨b, 0, none⟩ = some v := by
  subst hb
  rw [h.cell (p := ⟨w.heap.size, 0, none⟩) (by simp), World.cell?_alloc_new]
  rfl
theorem box_now (w : World) (v : Value) (t : TypeId) {b : Nat} (hb : b = w.heap.size) : (w.alloc (.cells #[v] t)).cell? ⟨b, 0, none⟩ = some v := box_kept hb (Below.refl _ _)
/-- append(v, zs...), numbers. -/
theorem wpList_append_ints {ops : Array Oper} {rest : List Oper} {o : Oper} {a : Act} {Q : Exit → Act → World → Prop} (w : World) (hgd : o.guard = none) (s x : Operand)
    (ho : o.op = .call { callee := .builtin .append, args := #[s, x], argTypes := #[45, 45] }) (B : Nat) (v : Value) (l m : List Int) (g n c' : Nat) (hs : a.eval s = v) (hx : a.eval x = .slice (some ⟨g, 0, none⟩) n c')
    (hv : OwnI B w v l) (hm : m.length = n) (hc : ∀ j (h : j < m.length), w.cell? ⟨g, j, none⟩ = some (.int .i64 m[j])) (hB : B ≤ w.heap.size) (hN : l.length + n ≤ 100000)
    (h : ∀ v' w', OwnI B w' v' (l ++ m) → Below B w w' → w.heap.size ≤ w'.heap.size → wpList Try.prog ops Q rest (a.put o.dst v') w') : wpList Try.prog ops Q (o :: rest) a w := by
  obtain ⟨i, hi, hz, hsz, hb⟩ := infoI
  subst hm
  refine wpList_append_own_at w hgd s x _ ho B 3 i _ 1 8 Try.underlying45 hi hz hsz hb rfl (by decide) v l.length (l.map (Value.int .i64)) hs hv ⟨g, 0, none⟩ m.length c' (m.map (Value.int .i64)) hx (by simp) (fun j u hj => ?_) (fun u hu => ?_) (by unfold maxLen; omega) (by omega) hB fun v' w' h1 h2 _ _ => ?_
  · have hlt : j < m.length := by simpa using (List.getElem?_eq_some_iff.1 hj).1
    rw [Go.WideShapes.add_plain, Nat.zero_add, hc j hlt, ← hj, List.getElem?_map, List.getElem?_eq_getElem hlt]
    rfl
  · obtain ⟨y, _, rfl⟩ := List.mem_map.1 hu; rfl
  · refine h v' w' ?_ ((Below.refl B w).grown h2 hB fun k hk => (World.ownsRow.lt hv k hk).1) h2.size
    unfold OwnI
    rw [List.length_append, List.map_append]
    exact h1
theorem own_oneI (w : World) (B : Nat) (y : Int) (hB : B ≤ w.heap.size) : OwnI B (w.alloc (.cells #[.int .i64 y] 3)) (.slice (some ⟨w.heap.size, 0, none⟩) 1 1) [y] := by
  have := World.ownsRow_lit (base := B) (e := 3) (size := 1) w #[.int .i64 y] 1 hB (by decide) (by simp)
  simpa [OwnI] using this
theorem ofMirror_any (w : World) (B : Nat) (vL vG : Value) (u z : Nat) (L : List C) (G : List ByteArray) (hV : OwnC B w vL L) (hT : Own w B vG G) (hB : B ≤ w.heap.size) (hz1 : 1 ≤ z) (hz4 : z ≤ 4) (hu1 : 1 ≤ u) (hu8 : u ≤ 8) (hL : L.length = u * z) (hG : G.length = u * z) (hs : ∀ s ∈ G, s.size ≤ 1000) :
    Calls Try.prog 32 #[vL, .int .i64 (z : Int), vG] w fun e w' => ∃ v', e = .returned v' ∧ SeqT B w' v' (triesM L G u z) ∧ Below w.heap.size w w' := by
  have HV := Lib.hid hV
  have HT := Lib.hid hT
  obtain ⟨aL, cL, rfl⟩ := hV.none
  obtain ⟨aG, cG, eG, -⟩ := hT.txt
  subst eG
  obtain ⟨nL, hnL⟩ : ∃ n, L.length = n := ⟨_, rfl⟩
  obtain ⟨nG, hnG⟩ : ∃ n, G.length = n := ⟨_, rfl⟩
  have HH : Hid (∀ n, 1 ≤ n → ∀ w' b1 b2 b3, MirS w' B b1 b2 b3 (.slice aL nL cL) (.slice aG nG cG) z L G → HandsS Fence.wide n Try.prog 45 #[.pointer (some ⟨b1, 0, none⟩), .pointer (some ⟨b2, 0, none⟩), .pointer (some ⟨b3, 0, none⟩)] encT (triesM L G u z) B w') :=
    Lib.hid fun n hn w' b1 b2 b3 hM => mir1_hands n hn w' B b1 b2 b3 _ _ u z L G hM hz1 hz4 hu1 hu8 hL hG hs
  rw [hnL] at HV
  rw [hnG] at HT
  rw [hnL, hnG]
  clear hV hT hnL hnG hL hG hs
  go_enter Try.func32, Try.ntmps32
  go_wp2
  go_ret
  have bb : Below w.heap.size w (((w.alloc (.cells #[.slice aL nL cL] 33)).alloc (.cells #[.int .i64 (z : Int)] 3)).alloc (.cells #[.slice aG nG cG] 27)) := next (next (boxed _ _) (boxed _ _)) (boxed _ _)
  refine ⟨_, rfl, ⟨_, _, rfl, enters_of Try.func45 (by kernel_rfl) rfl, fun n hn => HH.out n hn _ _ _ _ ⟨?_, ?_, ?_, ⟨hB, by simp; omega⟩, ⟨by omega, by simp⟩, ⟨by omega, by simp⟩, HV.out.below bb, HT.out.below bb⟩⟩, bb⟩
  · exact box_kept rfl (next (boxed _ _) (boxed _ _))
  · exact box_kept (by simp) (boxed _ _)
  · exact box_now _ _ _ (by simp)

set_option maxHeartbeats 2000000 in
theorem ofParity_any (w : World) (B : Nat) (vL vG : Value) (L : List C) (G : List ByteArray) (hV : OwnC B w vL L) (hT : Own w B vG G) (hB : B ≤ w.heap.size) (h0 : 0 < L.length) (hl : L.length ≤ 32) (hH : Heads L) (hd : 0 < (datL L).length) (hp2 : Paired L) (hG : G.length = L.length) (hs : ∀ s ∈ G, s.size ≤ 1000) :
    Calls Try.prog 33 #[vL, vG] w fun e w' => ∃ v', e = .returned v' ∧ SeqT B w' v' (triesP L G (-1 :: devsS ((datL L).map C.dev))) ∧ Below w.heap.size w w' := by
  have HV := Lib.hid hV
  have HT := Lib.hid hT
  obtain ⟨aL, cL, rfl⟩ := hV.none
  obtain ⟨aG, cG, eG, -⟩ := hT.txt
  subst eG
  obtain ⟨nL, hnL⟩ : ∃ n, L.length = n := ⟨_, rfl⟩
  obtain ⟨nG, hnG⟩ : ∃ n, G.length = n := ⟨_, rfl⟩
  have HL0 := Lib.hid h0
  have HLL := Lib.hid hl
  obtain ⟨D, hD⟩ : ∃ D, devsS ((datL L).map C.dev) = D := ⟨_, rfl⟩
  have hDl : D.length ≤ 32 := by
    rw [← hD]
    refine Nat.le_trans (devsS_le _) ?_
    rw [List.length_map]
    unfold datL
    exact Nat.le_trans (List.length_filter_le _ _) hl
  rw [hD]
  have HH : Hid (∀ n, 1 ≤ n → ∀ w' b1 b2 b3 vD, ParS w' B b1 b2 b3 vD (.slice aL nL cL) (.slice aG nG cG) (-1 :: D) L G → HandsS Fence.wide n Try.prog 51 #[.pointer (some ⟨b1, 0, none⟩), .pointer (some ⟨b2, 0, none⟩), .pointer (some ⟨b3, 0, none⟩)] encT (triesP L G (-1 :: D)) B w') :=
    Lib.hid fun n hn w' b1 b2 b3 vD hM => par2_hands n hn w' B b1 b2 b3 _ _ _ _ L G hM (by simp) (by simp; omega) h0 (by omega) hp2 hG hs
  rw [hnL] at HV
  rw [hnG] at HT
  rw [hnL, hnG]
  have HHD := Lib.hid hH
  have HDA := Lib.hid hd
  have HD := Lib.hid hD
  have bb : Below w.heap.size w ((w.alloc (.cells #[.slice aL nL cL] 33)).alloc (.cells #[.slice aG nG cG] 27)) := next (boxed _ _) (boxed _ _)
  have HBB := Lib.hid bb
  have HCL := Lib.hid (clone_col L (.slice aL nL cL) _ (HV.out.v.next bb) h0 (by omega))
  clear hV hT hnL hnG hG hs hp2 hH hd hD bb h0 hl
  go_enter Try.func33, Try.ntmps33
  go_wp2_with fail
  refine HCL.out.mono ?_
  rintro e w1 ⟨v1, rfl, ho1, b1⟩
  have HB1 : Hid (Below w.heap.size w w1) := Lib.hid (next HBB.out b1)
  have HDF := Lib.hid (delete_any w1 _ v1 L ho1 b1.size (by have := HLL.out; omega) HHD.out)
  obtain ⟨a1, c1, e1⟩ := ho1.none
  generalize L.length = n1 at e1
  subst e1
  go_wp2_with fail
  refine HDF.out.mono ?_
  rintro e w2 ⟨v2, rfl, hV2, b2⟩
  have bd : Below w2.heap.size w2 (w2.alloc (.cells #[.int .i64 (-1)] 3)) := boxed _ _
  have hB2 : Below w1.heap.size w1 w2 ∨ True := .inr trivial
  have HW2 : Hid (Below w.heap.size w w2) := Lib.hid (HBB.out.trans ((b1.trans b2).mono HBB.out.size))
  have HDV := Lib.hid (devs_cols _ v2 (datL L) (hV2.next bd) HDA.out (by unfold datL; have := HLL.out; have := List.length_filter_le (fun x : C => !x.par) L; omega) D HD.out)
  obtain ⟨a2, n2, c2, rfl, -⟩ := id hV2
  obtain ⟨w0, hw0⟩ : ∃ w0, (w.alloc (.cells #[.slice aL nL cL] 33)).alloc (.cells #[.slice aG nG cG] 27) = w0 := ⟨_, rfl⟩
  have hs0 : w0.heap.size = w.heap.size + 2 := by rw [← hw0]; simp
  rw [hw0] at b1 b2
  have HW0 := Lib.hid hw0
  have HW02 : Hid (Below w0.heap.size w0 w2) := Lib.hid (b1.trans b2)
  clear b1 b2 HDF HCL ho1 hV2 HB1 HBB hB2 hw0
  go_wp2_with fail
  refine HDV.out.mono ?_
  rintro e w3 ⟨v3, rfl, hI3, b3⟩
  obtain ⟨a3, n3, c3, rfl, hn3, hc3, hj3⟩ := hI3
  have hD0 : 0 < D.length := by rw [← HD.out]; exact devsS_pos (by rw [List.length_map]; exact HDA.out)
  obtain ⟨g3, rfl, hg3, -⟩ := hj3 0 hD0
  have HC3 : Hid (∀ j (h : j < D.length), w3.cell? ⟨g3, j, none⟩ = some (.int .i64 D[j])) := Lib.hid fun j hj => by
    obtain ⟨g', e, _, hx⟩ := hj3 j hj
    cases e
    exact hx
  have HW3 := Lib.hid (next HW2.out (next bd b3))
  have HW03 := Lib.hid (next HW02.out (next bd b3))
  have HO3 := Lib.hid ((own_oneI w2 w0.heap.size (-1) HW02.out.size).below b3)
  have hs3 := HW03.out.size
  have HN3 := Lib.hid hn3
  have hn32 : n3 ≤ 32 := by omega
  clear hj3 hD0 bd b3 hn3
  go_wp2_with (at_builtin; refine wpList_append_ints _ rfl _ _ rfl w0.heap.size _ [-1] D g3 n3 c3 rfl rfl HO3.out HN3.out HC3.out hs3 (by simp; omega) ?_; intro v4 w4 hO4 b04 s4; obtain ⟨a4, n4, c4, e4, -⟩ := hO4.v; subst e4)
  go_ret
  have bw4 : Below w.heap.size w w4 := HW3.out.trans (b04.mono (by omega))
  have b5 := boxed w4 (.cells #[.slice a4 n4 c4] 45)
  have b6 := next bw4 b5
  have b7 : Below w0.heap.size w0 (w4.alloc (.cells #[.slice a4 n4 c4] 45)) := next (HW03.out.trans b04) b5
  have s7 := b7.size
  refine ⟨_, rfl, ⟨_, _, rfl, enters_of Try.func51 (by kernel_rfl) rfl, fun n hn => HH.out n hn _ _ _ _ _ ⟨box_now _ _ _ rfl, ?_, ?_, ⟨Nat.le_trans hB bw4.size, by simp⟩, ⟨hB, by omega⟩, ⟨by omega, by omega⟩, (hO4.below b5).lower (by omega), HV.out.below b6, HT.out.below b6⟩⟩, b6⟩
  · refine box_kept (t := 33) rfl ?_
    rw [← HW0.out] at b7
    exact next (boxed _ _) b7
  · refine box_kept (w := w.alloc (.cells #[.slice aL nL cL] 33)) (t := 27) (by simp) ?_
    rw [← HW0.out] at b7
    exact b7
end Go.Proofs.Ytpalgadokdcgnaa

/- Texts, and rows of texts, that are the call's own. -/
namespace Go.Proofs.Ytpalgadokdcgnaa
set_option maxRecDepth 100000
open Go.RowKit M

theorem Own.lower {w : World} {B B' : Nat} {v : Value} {l : List ByteArray} (h : Own w B v l) (hB : B' ≤ B) : Own w B' v l := by
  refine ⟨h.1, ?_⟩
  rcases h.2 with hn | ⟨g, cap, cur, rfl, hB', hg, rest⟩
  · exact .inl hn
  · exact .inr ⟨g, cap, cur, rfl, Nat.le_trans hB hB', hg, rest⟩
theorem Own.kept {w w' : World} {B : Nat} {row : Option Nat} {v : Value} {l : List ByteArray} (h : Own w B v l) (hg : w.grownBy w' row) (hne : ∀ b, v.ownBlock = some b → row ≠ some b) : Own w' B v l := by
  refine World.ownsRow.kept h hg ?_
  cases e : v.ownBlock with
  | none => exact .inl rfl
  | some b => exact .inr fun e' => hne b e e'.symm
/-- append(v, x): what is turned is the row's own block alone, and the answer lies there or is new. -/
theorem app_row (w : World) (B : Nat) (v : Value) (l : List ByteArray) (x : ByteArray) (g o c : Nat) (hv : Own w B v l) (hx : w.cell? ⟨g, o, none⟩ = some (.string x)) (hB : B ≤ w.heap.size) (hn : l.length + 1 ≤ 4294967296) (ty : TypeId) :
    ∃ v' w', (Builtin.append_ #[27, 27] ty #[v, .slice (some ⟨g, o, none⟩) 1 c]).run Try.prog w = .ok v' w' ∧ Own w' B v' (l ++ [x]) ∧ w.grownBy w' v.ownBlock ∧ ∃ b, v'.ownBlock = some b ∧ (v.ownBlock = some b ∨ w.heap.size ≤ b) := by
  obtain ⟨i, hi, hz, hs, hb⟩ := info_str
  have hnews : ∀ (j : Nat) (u : Value), ([Value.string x] : List Value)[j]? = some u → w.cell? ((⟨g, o, none⟩ : Addr).add j) = some u := fun j u hu => by
    obtain rfl : j = 0 := by
      have := (List.getElem?_eq_some_iff.1 hu).1
      simpa using this
    rw [Go.WideShapes.add_plain, Nat.add_zero, hx]
    simpa using hu
  have hone : ∀ u ∈ ([Value.string x] : List Value), u.oneCell' = true := fun u hu => by rw [List.mem_singleton.1 hu]; rfl
  have key : ∀ B', B' ≤ w.heap.size → Own w B' v l → ∃ v' w', (Builtin.append_ #[27, 27] ty #[v, .slice (some ⟨g, o, none⟩) 1 c]).run Try.prog w = .ok v' w' ∧ Own w' B' v' (l ++ [x]) ∧ w.grownBy w' v.ownBlock ∧ v' ≠ .slice none 0 0 := by
    intro B' hB' hv'
    obtain ⟨v', w', h1, h2, h3, h4⟩ := run_append_own (P := Try.prog) w B' 27 ty 9 i (.string ⟨#[]⟩) 1 16 Try.underlying27 hi hz hs hb rfl (by decide) v l.length (l.map Value.string) hv'
      ⟨g, o, none⟩ 1 c [.string x] rfl hnews hone (by unfold maxLen; omega) (by omega) hB'
    refine ⟨v', w', h1, ?_, h3, fun e => ?_⟩
    · rw [Own, List.length_append, List.map_append]; exact h2
    · have := (h4.1 e).2; omega
  rcases hv.2 with ⟨rfl, h0⟩ | ⟨gv, cap, cur, rfl, hBg, hg, hnc, hcm, hcs, ht⟩
  · have hl : l = [] := List.eq_nil_of_length_eq_zero h0
    subst hl
    obtain ⟨v', w', h1, h2, h3, h4⟩ := key w.heap.size (Nat.le_refl _) (World.ownsRow_nil _ _ _ _)
    refine ⟨v', w', h1, h2.lower hB, h3, ?_⟩
    rcases h2.2 with ⟨e, _⟩ | ⟨gb, _, _, e, hb', _⟩
    · exact absurd e h4
    · exact ⟨gb, by rw [e]; rfl, .inr hb'⟩
  · obtain ⟨v', w', h1, h2, h3, h4⟩ := key B hB hv
    refine ⟨v', w', h1, h2, h3, ?_⟩
    by_cases hroom : l.length + 1 ≤ cap
    · have hr := run_append_room (P := Try.prog) w 27 ty 9 i Try.underlying27 hi gv l.length cap cur hg ⟨g, o, none⟩ 1 c [.string x] (by simp [hs]) hnews hone hroom (by rw [hs, hcs]; simp; omega)
      rw [hr] at h1
      cases h1
      exact ⟨gv, rfl, .inl rfl⟩
    · have hr := run_append_grow (P := Try.prog) w 27 ty 9 i (.string ⟨#[]⟩) Try.underlying27 hi hz ⟨gv, 0, none⟩ l.length cap (l.map Value.string) (by rw [hs]; exact hv.1) (hv.cells (g := gv) rfl) ⟨g, o, none⟩ 1 c [.string x] (by simp [hs]) hnews (by omega) (by omega) (growslice_fits (by omega) (by rw [hb]; omega))
      rw [hr] at h1
      cases h1
      exact ⟨w.heap.size, rfl, .inr (Nat.le_refl _)⟩

/-- Texts X in block gt, and in block gr R rows: row r is the slice V r, the texts T r. -/
structure Enc (w : World) (B gt gr n R : Nat) (X : List ByteArray) (V : Nat → Value) (T : Nat → List ByteArray) : Prop where
  hB : B ≤ w.heap.size
  bt : B ≤ gt
  br : B ≤ gr
  tr : gt ≠ gr
  own : Own w B (.slice (some ⟨gt, 0, none⟩) n n) X
  lt : gr < w.heap.size
  tlt : gt < w.heap.size
  cell : ∀ r, r < R → w.cell? ⟨gr, r, none⟩ = some (V r)
  frz : ∀ r, r < R → w.frozen? ⟨gr, r, none⟩ = false
  rows : ∀ r, r < R → Own w B (V r) (T r)
  apart : ∀ r, r < R → ∀ b, (V r).ownBlock = some b → b ≠ gt ∧ b ≠ gr
  each : ∀ r r', r < R → r' < R → r ≠ r' → ∀ b, (V r).ownBlock = some b → (V r').ownBlock ≠ some b
theorem grown_below {w w' : World} (h : Below w.heap.size w w') : w.grownBy w' none := ⟨h.os, h.tape, h.output, h.size, fun k hk _ => h.block k hk⟩
theorem Enc.next {w w' : World} {B gt gr n R : Nat} {X : List ByteArray} {V : Nat → Value} {T : Nat → List ByteArray} (h : Enc w B gt gr n R X V T) (k : Below w.heap.size w w') : Enc w' B gt gr n R X V T :=
  ⟨Nat.le_trans h.hB k.size, h.bt, h.br, h.tr, h.own.below k, Nat.lt_of_lt_of_le h.lt k.size, Nat.lt_of_lt_of_le h.tlt k.size, fun r hr => by rw [k.cell (p := ⟨gr, r, none⟩) h.lt]; exact h.cell r hr,
    fun r hr => by rw [k.frozen (p := ⟨gr, r, none⟩) h.lt]; exact h.frz r hr, fun r hr => (h.rows r hr).below k, h.apart, h.each⟩
theorem grown_set (w : World) (p : Addr) (v : Value) : w.grownBy (w.setCell p v) (some p.block) :=
  ⟨rfl, rfl, rfl, by simp [World.setCell], fun k _ hk => Below.heap_setCell _ _ _ _ (fun e => hk (by rw [e]))⟩
/-- A text laid anew. -/
theorem Enc.text {w : World} {B gt gr n R : Nat} {X : List ByteArray} {V : Nat → Value} {T : Nat → List ByteArray} (h : Enc w B gt gr n R X V T) (k : Nat) (hk : k < n) (x : ByteArray) : Enc (w.setCell ⟨gt, k, none⟩ (.string x)) B gt gr n R (X.set k x) V T := by
  have hg := grown_set w ⟨gt, k, none⟩ (.string x)
  have hgr := hg.block gr h.lt (fun e => h.tr (Option.some.inj e).symm)
  exact ⟨Nat.le_trans h.hB hg.size, h.bt, h.br, h.tr, h.own.set k hk x, Nat.lt_of_lt_of_le h.lt hg.size, Nat.lt_of_lt_of_le h.tlt hg.size, fun r hr => by rw [World.cell?_of_block (w := w) (a := ⟨gr, r, none⟩) hgr]; exact h.cell r hr,
    fun r hr => by rw [World.frozen?_of_block (w := w) (a := ⟨gr, r, none⟩) hgr]; exact h.frz r hr, fun r hr => (h.rows r hr).kept hg fun b hb e => (h.apart r hr b hb).1 (Option.some.inj e).symm, h.apart, h.each⟩
/-- A row with a text more. -/
theorem Enc.push {w w' : World} {B gt gr n R : Nat} {X : List ByteArray} {V : Nat → Value} {T : Nat → List ByteArray} (h : Enc w B gt gr n R X V T) (r : Nat) (hr : r < R) (v' : Value) (T' : List ByteArray) (hg : w.grownBy w' (V r).ownBlock) (ho : Own w' B v' T')
    (hb : ∃ b, v'.ownBlock = some b ∧ ((V r).ownBlock = some b ∨ w.heap.size ≤ b)) :
    Enc (w'.setCell ⟨gr, r, none⟩ v') B gt gr n R X (fun i => if i = r then v' else V i) (fun i => if i = r then T' else T i) := by
  obtain ⟨b, hb1, hb2⟩ := hb
  have hs := grown_set w' ⟨gr, r, none⟩ v'
  have hbt : b ≠ gt ∧ b ≠ gr := by
    rcases hb2 with hb2 | hb2
    · exact h.apart r hr b hb2
    · have := h.lt; have := h.tlt; omega
  have hgr := hg.block gr h.lt (fun e => (h.apart r hr gr e.symm).2 rfl)
  have hltr : gr < w'.heap.size := Nat.lt_of_lt_of_le h.lt hg.size
  have hcell : ∀ i, i < R → w'.cell? ⟨gr, i, none⟩ = some (V i) := fun i hi => by rw [World.cell?_of_block (w := w) (a := ⟨gr, i, none⟩) hgr]; exact h.cell i hi
  have hothers : ∀ i, i < R → i ≠ r → ∀ c, (V i).ownBlock = some c → c ≠ b ∧ c ≠ gr ∧ (V r).ownBlock ≠ some c := fun i hi hir c hc => by
    have hVi := (World.ownsRow.lt (h.rows i hi) c hc).2
    refine ⟨fun e => ?_, (h.apart i hi c hc).2, h.each i r hi hr hir c hc⟩
    subst e
    rcases hb2 with hb2 | hb2
    · exact h.each i r hi hr hir c hc hb2
    · omega
  refine ⟨Nat.le_trans h.hB (Nat.le_trans hg.size hs.size), h.bt, h.br, h.tr, ?_, Nat.lt_of_lt_of_le hltr hs.size, Nat.lt_of_lt_of_le h.tlt (Nat.le_trans hg.size hs.size), fun i hi => ?_, fun i hi => ?_, fun i hi => ?_, fun i hi c hc => ?_, fun i j hi hj hij c hc => ?_⟩
  · exact (h.own.kept hg fun c hc e => by
      have hc' : gt = c := Option.some.inj hc
      subst hc'
      exact (h.apart r hr gt e).1 rfl).kept hs fun c hc e => by
        have hc' : gt = c := Option.some.inj hc
        have he' : gr = c := Option.some.inj e
        exact h.tr (by rw [hc', he'])
  · by_cases e : i = r
    · subst e
      rw [if_pos rfl, World.cell?_setCell_same _ _ _ (hcell i hi)]
    · rw [if_neg e, World.cell?_setCell_other _ _ _ _ (by intro h'; apply e; cases h'; rfl)]
      exact hcell i hi
  · rw [World.frozen?_setCell, World.frozen?_of_block (w := w) (a := ⟨gr, i, none⟩) hgr]; exact h.frz i hi
  · by_cases e : i = r
    · subst e
      rw [if_pos rfl, if_pos rfl]
      refine ho.kept hs fun c hc e => ?_
      rw [hb1] at hc
      have hc' : b = c := Option.some.inj hc
      have he' : gr = c := Option.some.inj e
      exact hbt.2 (by rw [hc', he'])
    · rw [if_neg e, if_neg e]
      refine ((h.rows i hi).kept hg fun c hc => (hothers i hi e c hc).2.2).kept hs fun c hc e' => ?_
      exact (hothers i hi e c hc).2.1 (Option.some.inj e').symm
  · by_cases e : i = r
    · subst e
      rw [if_pos rfl, hb1] at hc
      have hc' : b = c := Option.some.inj hc
      subst hc'
      exact hbt
    · rw [if_neg e] at hc
      exact h.apart i hi c hc
  · by_cases e : i = r
    · subst e
      rw [if_pos rfl, hb1] at hc
      have hc' : b = c := Option.some.inj hc
      subst hc'
      rw [if_neg (fun e => hij e.symm)]
      exact fun hV => (hothers j hj (fun e => hij e.symm) b hV).1 rfl
    · rw [if_neg e] at hc
      by_cases e' : j = r
      · subst e'
        rw [if_pos rfl, hb1]
        intro hcb
        exact (hothers i hi e c hc).1 (Option.some.inj hcb).symm
      · rw [if_neg e']
        exact h.each i j hi hj hij c hc
end Go.Proofs.Ytpalgadokdcgnaa

/- code.Tries of any columns. -/
namespace Go.Proofs.Ytpalgadokdcgnaa
set_option maxRecDepth 100000
open Go.RowKit Go.Shelf M

/-- Each data column has another one in its row, told by rows and parities alone. -/
def pairedB (M : List (Int × Bool)) : Bool := M.all fun x => x.2 || decide (2 ≤ M.countP fun y => y.1 == x.1)
theorem paired_of {L : List C} (h : pairedB (L.map rp) = true) : Paired L := by
  intro a ha hp
  rw [idx_count (p := fun x : C => x.row == rowAt L a) L (fun j hj => by rw [rowAt_eq hj]) L.length (Nat.le_refl _), List.take_length]
  unfold pairedB at h
  rw [List.all_eq_true] at h
  have h1 := h (rp L[a]) (List.mem_map_of_mem (List.getElem_mem ha))
  rw [parAt_eq ha] at hp
  rw [rowAt_eq ha]
  simp only [rp, hp, Bool.false_or, decide_eq_true_iff, List.countP_map] at h1
  exact h1
theorem par_paired : ∀ u : Nat, u < 9 → 3 ≤ u → ∀ z : Nat, z < 5 → 1 ≤ z → pairedB ((parTo 0 0 u z).map rp) = true := by decide
theorem parTo_paired (f : Int) (t u z : Nat) (h3 : 3 ≤ u) (h8 : u ≤ 8) (z1 : 1 ≤ z) (z4 : z ≤ 4) : Paired (parTo f t u z) := paired_of (by rw [parTo_shape]; exact par_paired u (by omega) h3 z (by omega) z1)

/-- The kind of a block's group, and how wide it is. -/
structure Kinded (l : List (Int × Int)) (k t z : Nat) (kk : Int) (u : Nat) (L : List C) : Prop where
  grp : l.getD k (0, 0) = (kk, (u : Int))
  ok : (kk = 0 ∧ 1 ≤ u ∧ u ≤ 8 ∧ L = mirL (aheadL l k) t u z ∧ L.length = u * z) ∨ (kk = 1 ∧ 3 ≤ u ∧ u ≤ 8 ∧ L = parTo (aheadL l k) t u z ∧ Paired L)
theorem Blk.kinded {l : List (Int × Int)} {s : Int} {k t z : Nat} (h : Blk l s k t z) : ∃ kk u, Kinded l k t z kk u (colsOf l k t z) := by
  have hk := h.hk
  obtain ⟨kk, u, hlk, hok⟩ : ∃ kk u, l[k] = (kk, u) ∧ okG (kk, u) = true := ⟨l[k].1, l[k].2, rfl, h.right.all k hk⟩
  obtain ⟨u0, rfl⟩ := Int.eq_ofNat_of_zero_le (show 0 ≤ u by have := okG_wide hok; omega)
  have hg : l.getD k (0, 0) = (kk, (u0 : Int)) := by rw [getD_at hk, hlk]
  refine ⟨kk, u0, hg, ?_⟩
  unfold colsOf
  rw [hg]
  rcases okG_cases hok with ⟨rfl, h1, h2⟩ | ⟨rfl, h1, h2⟩
  · left
    have e : colsG (aheadL l k) (0, (u0 : Int)) t z = mirL (aheadL l k) t u0 z := by unfold colsG; rw [if_pos rfl]; simp
    rw [e]
    exact ⟨rfl, by omega, by omega, rfl, mirL_len _ _ _ _⟩
  · right
    have e : colsG (aheadL l k) (1, (u0 : Int)) t z = parTo (aheadL l k) t u0 z := by unfold colsG; rw [if_neg Int.one_ne_zero]; simp
    rw [e]
    exact ⟨rfl, by omega, by omega, rfl, parTo_paired _ _ _ _ (by omega) (by omega) h.z1 h.z4⟩
theorem Blk.data {l : List (Int × Int)} {s : Int} {k t z : Nat} (h : Blk l s k t z) : z ≤ (datL (colsOf l k t z)).length := by
  have hk := h.hk
  obtain ⟨kk, u, hlk, hok⟩ : ∃ kk u, l[k] = (kk, u) ∧ okG (kk, u) = true := ⟨l[k].1, l[k].2, rfl, h.right.all k hk⟩
  have hw := okG_wide hok
  obtain ⟨u0, rfl⟩ := Int.eq_ofNat_of_zero_le (show 0 ≤ u by omega)
  obtain ⟨R, hR⟩ := h.rowed hlk
  rw [hR.datas]
  split
  · exact Nat.le_mul_of_pos_right _ (by omega)
  · exact Nat.le_refl _

/-- What columns may come to. -/
def triesB (l : List (Int × Int)) (k t z : Nat) (G : List ByteArray) : List (Int × ByteArray) :=
  if (l.getD k (0, 0)).1 = 0 then triesM (colsOf l k t z) G (l.getD k (0, 0)).2.toNat z else triesP (colsOf l k t z) G (-1 :: devsS ((datL (colsOf l k t z)).map C.dev))
def triesOf (l : List (Int × Int)) (sc k t z : Int) (G : List ByteArray) : List (Int × ByteArray) := if fitsL l sc k t z G then triesB l k.toNat t.toNat z.toNat G else []
theorem fit_small {G : List ByteArray} (h : fitL G = true) : ∀ s ∈ G, s.size ≤ 1000 := by
  intro s hs
  unfold fitL at h
  rw [List.all_eq_true] at h
  have := h s hs
  unfold secT at this
  rw [Bool.or_eq_true, beq_iff_eq, beq_iff_eq] at this
  omega

set_option maxHeartbeats 2000000 in
theorem tries_any (l : List (Int × Int)) (sc : Int) (v : Value) (w : World) (h : Meas w v l sc) (k t z : Int) (hk : I64 k) (ht : I64 t) (hz : I64 z) (G : List ByteArray) (vG : Value) (hG : Txt w vG G) (hm : G.length ≤ 100000) :
    Calls Try.prog 13 #[v, .agg #[.int .i64 k, .int .i64 t], .int .i64 z, vG] w fun e w' => ∃ v', e = .returned v' ∧ SeqT w.heap.size w' v' (triesOf l sc k t z G) ∧ Below w.heap.size w w' := by
  have K1 := h
  obtain ⟨a, n, c, rfl, hg⟩ := id h
  replace K1 := Lib.hid (HeldP.start k t K1)
  have HC := Lib.hid (fitting_any l sc _ _ K1.out.h.m k t z hk ht hz G vG (hG.below K1.out.h.below) hm)
  have HG := Lib.hid hG
  obtain ⟨aG, cG, eG, -⟩ := hG
  generalize hn : G.length = nG at eG hm
  subst eG
  have HN := Lib.hid hn
  clear h hg hk ht hz hn
  go_enter Try.func13, Try.ntmps13
  go_wp2_with fail
  refine HC.out.mono ?_
  rintro e w1 ⟨v1, ok, rfl, ⟨hok, hyes, a1, n1, c1, rfl⟩, b1⟩
  have K2 := Lib.hid (K1.out.next b1)
  have hs1 := b1.size
  cases ok with
  | false =>
    have HT : Hid (triesOf l sc k t z G = []) := Lib.hid (by unfold triesOf; rw [← hok]; rfl)
    clear hok hyes b1
    go_wp2
    go_ret
    rw [HT.out]
    exact ⟨_, rfl, ⟨_, _, rfl, enters_of Try.func30 (by kernel_rfl) rfl, fun n hn => tries1_hands n hn _ _⟩, K2.out.h.below⟩
  | true =>
    obtain ⟨k', t', z', rfl, rfl, rfl, hB, hl, hf, hO⟩ := hyes rfl
    have HT : Hid (triesOf l sc k' t' z' G = triesB l k' t' z' G) := Lib.hid (by unfold triesOf; rw [← hok]; rfl)
    have hO' : OwnC w.heap.size w1 (.slice a1 n1 c1) (colsOf l k' t' z') := hO.lower K1.out.h.below.size
    have HO := Lib.hid hO'
    have hG0 : 0 < G.length := by rw [← hl]; exact hB.laid.pos
    have HCL := Lib.hid (clone_txt G _ w1 (HG.out.below K2.out.h.below) hG0 (by rw [HN.out]; exact hm))
    have HB := Lib.hid hB
    have HL := Lib.hid hl
    have HF := Lib.hid hf
    obtain ⟨kk, u, hK⟩ := hB.kinded
    have hkl := hB.hk
    have hlk : l[k'] = (kk, (u : Int)) := by rw [← getD_at hkl]; exact hK.grp
    have HLK : Hid (∃ h : k' < l.length, l[k'] = (kk, (u : Int))) := Lib.hid ⟨hkl, hlk⟩
    have HK := Lib.hid hK
    obtain ⟨z1, z4⟩ := And.intro hB.z1 hB.z4
    have hkk : kk = 0 ∨ kk = 1 := by rcases hK.ok with h | h; exact .inl h.1; exact .inr h.1
    have hnl := K2.out.h.len
    have hkn : k' < n := by rw [← hnl.1]; exact hkl
    have hk4 := hB.bounds.2
    have hn9 := hnl.2
    clear hok hyes b1 hO hO' hB hl hf hK hkl hlk hG0 hnl K1
    go_wp2_with fail
    refine HCL.out.mono ?_
    rintro e w2 ⟨v2, rfl, hO2, b2⟩
    have K3 := Lib.hid (K2.out.next b2)
    have HO2 := Lib.hid (hO2.lower (B' := w.heap.size) K2.out.h.below.size)
    have HO1 := Lib.hid (HO.out.below b2)
    obtain ⟨a2, c2, e2, -⟩ := hO2.txt
    have HBB := Lib.hid K3.out.h.below
    generalize G.length = n2 at e2
    subst e2
    clear hO2 b2 K2 HO
    obtain ⟨hh, p0, p1, plt⟩ := K3.out
    obtain ⟨g, o, rfl, hlt, e0, e1⟩ := hh.at_ HLK.out.1 HLK.out.2
    have c0 := hh.c0
    dsimp only at e0 e1
    clear hh
    rcases hkk with rfl | rfl
    · go_wp2_with fail
      refine (ofMirror_any _ w.heap.size _ _ u z' (colsOf l k' t' z') G HO1.out HO2.out HBB.out.size z1 z4 ?_ ?_ ?_ ?_ (fit_small HF.out)).mono ?_
      · rcases HK.out.ok with h | h
        · exact h.2.1
        · exact absurd h.1 (by decide)
      · rcases HK.out.ok with h | h
        · exact h.2.2.1
        · exact absurd h.1 (by decide)
      · rcases HK.out.ok with h | h
        · exact h.2.2.2.2
        · exact absurd h.1 (by decide)
      · rw [← HL.out]
        rcases HK.out.ok with h | h
        · exact h.2.2.2.2
        · exact absurd h.1 (by decide)
      · rintro e w5 ⟨v5, rfl, hS, b5⟩
        have HS : Hid (SeqT w.heap.size w5 v5 (triesOf l sc k' t' z' G)) := Lib.hid (by
          rw [HT.out, triesB, HK.out.grp, if_pos rfl]
          exact hS)
        obtain ⟨gf, lb, rfl, _⟩ := id hS
        go_wp2
        go_ret
        exact ⟨_, rfl, HS.out, next HBB.out b5⟩
    · go_wp2_with fail
      refine (ofParity_any _ w.heap.size _ _ (colsOf l k' t' z') G HO1.out HO2.out HBB.out.size HB.out.laid.pos HB.out.laid.few HB.out.heads (Nat.lt_of_lt_of_le HB.out.z1 HB.out.data) ?_ HL.out.symm (fit_small HF.out)).mono ?_
      · rcases HK.out.ok with h | h
        · exact absurd h.1 (by decide)
        · exact h.2.2.2.2
      · rintro e w5 ⟨v5, rfl, hS, b5⟩
        have HS : Hid (SeqT w.heap.size w5 v5 (triesOf l sc k' t' z' G)) := Lib.hid (by
          rw [HT.out, triesB, HK.out.grp, if_neg Int.one_ne_zero]
          exact hS)
        obtain ⟨gf, lb, rfl, _⟩ := id hS
        go_wp2
        go_ret
        exact ⟨_, rfl, HS.out, next HBB.out b5⟩
end Go.Proofs.Ytpalgadokdcgnaa

/- Worlds that grew from a given one: a family for regions that draw their order. -/
namespace Go.Proofs.Ytpalgadokdcgnaa
set_option maxRecDepth 100000
open Go.RowKit

structure Ext (W : World) where
  v : World
  h : Below W.heap.size W v
theorem Ext.cell {W : World} (q : Ext W) {b i : Nat} {x : Value} (h : W.cell? ⟨b, i, none⟩ = some x) (hb : b < W.heap.size) : q.v.cell? ⟨b, i, none⟩ = some x := by
  rw [q.h.cell (p := ⟨b, i, none⟩) hb]; exact h
theorem Ext.some (W : World) : Nonempty (Ext W) := ⟨⟨W, Below.refl _ _⟩⟩
theorem Ext.calls {W : World} {f : FuncId} {args : Array Value} {x : Value} (h : ∀ w, Below W.heap.size W w → Calls Try.prog f args w fun e w' => e = .returned x ∧ Below w.heap.size w w') (q : Ext W) :
    Calls Try.prog f args q.v fun e w' => e = .returned x ∧ ∃ q' : Ext W, w' = q'.v :=
  (h q.v q.h).mono fun _ w' ⟨h1, h2⟩ => ⟨h1, ⟨w', next q.h h2⟩, rfl⟩
end Go.Proofs.Ytpalgadokdcgnaa

/- A region that draws its order, whose last operation may write what others read: an operation that yields its value wherever S holds may be taken first; S is to be shown behind each operation but that last one. -/
namespace Go.Proofs.Ytpalgadokdcgnaa
set_option maxRecDepth 100000

section
variable {P : Program} {ops : Array Oper} {Q : Exit → Act → World → Prop} {md : Region.Mode} {S : World → Prop} {s : Nat}

/-- Whatever order comes, S holds behind each operation but number s. -/
def wpAnyS (P : Program) (md : Region.Mode) (ops : Array Oper) (Q : Exit → Act → World → Prop) (S : World → Prop) (s : Nat) : Nat → Array Bool → Act → World → Prop
  | 0, listed, a, w => Region.ready md ops listed = [] ∧ Q .normal a w
  | fuel + 1, listed, a, w => (Region.ready md ops listed = [] → Q .normal a w) ∧
    ∀ i ∈ Region.ready md ops listed, wpOp P ops Q i (fun a' w' => (i ≠ s → S w') ∧ wpAnyS P md ops Q S s fuel (listed.setIfInBounds i true) a' w') a w

theorem wpAny_of_S : ∀ (fuel : Nat) (listed : Array Bool) (a : Act) (w : World), wpAnyS P md ops Q S s fuel listed a w → wpAny P md ops Q fuel listed a w
  | 0, _, _, _, h => h
  | fuel + 1, _, _, _, h => ⟨h.1, fun i hi => wpOp_mono (fun _ _ hk => wpAny_of_S fuel _ _ _ hk.2) (h.2 i hi)⟩

theorem wpAnyS_first {i : Nat} {oi : Oper} {v : Value} (hi : ops[i]? = some oi) (hsel : ∀ (j : Nat) (o : Oper) cs b, ops[j]? = some o → o.op ≠ .select cs b) (hQ : ∀ c a w, Q (.panic c) (a.put oi.dst v) w → Q (.panic c) a w)
    (hwait : ∃ os, ops[s]? = some os ∧ ∃ e ∈ os.after, Region.binds md e = true ∧ e.on = i) (fuel : Nat) :
    ∀ (listed : Array Bool) (a : Act) (w : World),
      (∀ j oj, ops[j]? = some oj → j ≠ i → listed.getD j true = false → (∀ e ∈ oj.after, Region.binds md e = true → e.on ≠ i) → oi.apart ops oj = true) →
      i ∈ Region.ready md ops listed → YieldsIf P ops S oi v a → S w → wpAnyS P md ops Q S s fuel (listed.setIfInBounds i true) (a.put oi.dst v) w → wpAnyS P md ops Q S s (fuel + 1) listed a w := by
  induction fuel with
  | zero =>
    intro listed a w _ hr hy hS H
    refine ⟨(fun e => by rw [e] at hr; cases hr), fun j hj => ?_⟩
    by_cases e : j = i
    · subst e
      exact hy.wpOp hi hS ⟨fun _ => hS, H⟩
    · have := ready_mono hj e
      rw [H.1] at this
      cases this
  | succ fuel ih =>
    intro listed a w hfree hr hy hS H
    refine ⟨(fun e => by rw [e] at hr; cases hr), fun j hj => ?_⟩
    by_cases e : j = i
    · subst e
      exact hy.wpOp hi hS ⟨fun _ => hS, H⟩
    · obtain ⟨hun, oj, hoj, hall⟩ := mem_ready.1 hj
      have hi0 := (mem_ready.1 hr).1
      have hnot : ∀ x ∈ oj.after, Region.binds md x = true → x.on ≠ i := fun x hx hb hon => by
        have h1 := hall x hx hb
        rw [hon] at h1
        rcases Nat.lt_or_ge i listed.size with hlt | hge
        · simp [hlt] at hi0 h1
          rw [hi0] at h1
          cases h1
        · simp [Array.getElem?_eq_none hge] at h1
      have hjs : j ≠ s := fun e' => by
        obtain ⟨os, hos, x, hx, hb, hon⟩ := hwait
        subst e'
        rw [hoj] at hos
        cases hos
        exact hnot x hx hb hon
      have h2 := wpOp_putIf hoj (hfree j oj hoj e hun hnot) (fun cs b => hsel i oi cs b hi) (fun cs b => hsel j oj cs b hoj) hQ hy (H.2 j (ready_mono hj e))
      refine wpOp_mono (fun a' w' hk => ⟨fun _ => hk.2.1 hjs, ih (listed.setIfInBounds j true) a' w' (fun k ok hk' hki hun' hno => hfree k ok hk' hki ?_ hno) (ready_mono hr (Ne.symm e)) hk.1 (hk.2.1 hjs) ?_⟩) h2
      · by_cases hjk : j = k
        · subst hjk; exact hun
        · rw [getD_set_ne true hjk] at hun'; exact hun'
      · rw [Array.setIfInBounds_comm _ _ e]
        exact hk.2.2

/-- Number i is taken first. -/
theorem wpAnyS_take {i : Nat} {oi : Oper} (v : Value) {fuel : Nat} {listed : Array Bool} {a : Act} {w : World} (hi : ops[i]? = some oi) (hs : Region.noSelect ops = true) (hf : Region.free md ops listed i = true)
    (hr : (Region.ready md ops listed).contains i = true) (hwait : ((ops[s]?).any fun o => o.after.any fun e => Region.binds md e && e.on == i) = true)
    (hQ : ∀ c a w, Q (.panic c) (a.put oi.dst v) w → Q (.panic c) a w) (hy : YieldsIf P ops S oi v a) (hS : S w)
    (h : wpAnyS P md ops Q S s fuel (listed.setIfInBounds i true) (a.put oi.dst v) w) : wpAnyS P md ops Q S s (fuel + 1) listed a w := by
  refine wpAnyS_first hi (Region.noSelect_spec hs) hQ ?_ fuel listed a w (Region.free_spec hi hf) (by simpa using hr) hy hS h
  obtain ⟨os, hos, h1⟩ := (Option.any_eq_true _ _).1 hwait
  obtain ⟨e, he, h2⟩ := Array.any_eq_true'.1 h1
  simp only [Bool.and_eq_true, beq_iff_eq] at h2
  exact ⟨os, hos, e, he, h2.1, h2.2⟩
/-- The one that may come up is carried out. -/
theorem wpAnyS_step {i : Nat} {o : Oper} {fuel : Nat} {listed : Array Bool} {a : Act} {w : World} (hr : Region.ready md ops listed = [i]) (ho : ops[i]? = some o) (hg : o.guard = none)
    (h : ∀ K : Act → World → Prop, (∀ a' w', (i ≠ s → S w') → wpAnyS P md ops Q S s fuel (listed.setIfInBounds i true) a' w' → K a' w') → o.wp P a w K Q) : wpAnyS P md ops Q S s (fuel + 1) listed a w := by
  refine ⟨(fun e => by rw [hr] at e; cases e), fun j hj => ?_⟩
  rw [hr] at hj
  obtain rfl := List.mem_singleton.1 hj
  unfold wpOp
  simp only [ho]
  rw [if_pos (by simp [Region.wanted, hg])]
  exact .inl (h _ fun a' w' hS hw => ⟨hS, hw⟩)
theorem wpAnyS_done {listed : Array Bool} {a : Act} {w : World} (hr : Region.ready md ops listed = []) (h : Q .normal a w) : ∀ fuel, wpAnyS P md ops Q S s fuel listed a w
  | 0 => ⟨hr, h⟩
  | _ + 1 => ⟨fun _ => h, by rw [hr]; simp⟩
theorem wp_region_S {id : Nat} {a : Act} {w : World} (s : Nat) (S : World → Prop) (hm : P.follows .mixedOrders = true) (h : wpAnyS P .any ops Q S s ops.size (Array.replicate ops.size false) a w.drew) : (Code.region id ops true).wp P Q a w :=
  wp_region_any hm (wpAny_of_S _ _ _ _ h)
end
end Go.Proofs.Ytpalgadokdcgnaa

/- code.Encode: a block's columns' texts. -/
namespace Go.Proofs.Ytpalgadokdcgnaa
set_option maxRecDepth 100000
open Go.RowKit M

theorem info_txts : ∃ i, Try.prog.info? 27 = some i ∧ i.zero = some (.slice none 0 0) ∧ i.size = 1 ∧ i.bytes = 24 := info_parts (by kernel_rfl)
theorem make_texts (w : World) (B n : Nat) (hB : B ≤ w.heap.size) (hn : n ≤ 100000) :
    ∃ w', (Instr.makeSlice 27 (.int .i64 (n : Int)) (.int .i64 (n : Int))).run Try.prog w = .ok (.slice (some ⟨w.heap.size, 0, none⟩) n n) w' ∧ Own w' B (.slice (some ⟨w.heap.size, 0, none⟩) n n) (List.replicate n ⟨#[]⟩) ∧ Below w.heap.size w w' ∧ w.heap.size < w'.heap.size := by
  obtain ⟨i, hi, hz, hs, hb⟩ := info_str
  obtain ⟨w', h1, h2, h3⟩ := run_make_full (P := Try.prog) w B 27 9 i (.string ⟨#[]⟩) 1 Try.underlying27 hi hz hs .i64 .i64 n (by rw [hb]; omega) (by unfold maxLen; omega) hB
  have h4 : (madeCells (Value.string ⟨#[]⟩).cells (n * 1)).toList = (List.replicate n (⟨#[]⟩ : ByteArray)).map Value.string := by
    rw [Nat.mul_one, List.map_replicate]; exact toList_madeCells_one _ _
  rw [h4] at h2
  refine ⟨w', h1, by rw [Own, List.length_replicate]; exact h2, ⟨h3.os, h3.tape, h3.output, h3.size, fun k hk => h3.block k hk (by simp)⟩, (World.ownsRow.lt h2 _ rfl).2⟩
theorem make_rows (w : World) (R : Nat) (hR : R ≤ 100000) :
    ∃ w', (Instr.makeSlice 61 (.int .i64 (R : Int)) (.int .i64 (R : Int))).run Try.prog w = .ok (.slice (some ⟨w.heap.size, 0, none⟩) R R) w' ∧ (∀ r, r < R → w'.cell? ⟨w.heap.size, r, none⟩ = some (.slice none 0 0)) ∧ (∀ r, r < R → w'.frozen? ⟨w.heap.size, r, none⟩ = false) ∧ Below w.heap.size w w' ∧ w.heap.size < w'.heap.size := by
  obtain ⟨i, hi, hz, hs, hb⟩ := info_txts
  obtain ⟨w', h1, h2, h3⟩ := run_make_full (P := Try.prog) w w.heap.size 61 27 i (.slice none 0 0) 1 Try.underlying61 hi hz hs .i64 .i64 R (by rw [hb]; omega) (by unfold maxLen; omega) (Nat.le_refl _)
  have h4 : (madeCells (Value.slice none 0 0).cells (R * 1)).toList = List.replicate R (.slice none 0 0) := by
    rw [Nat.mul_one]; exact toList_madeCells_one _ _
  rw [h4] at h2
  refine ⟨w', h1, fun r hr => ?_, fun r _ => h2.frozenAt r, ⟨h3.os, h3.tape, h3.output, h3.size, fun k hk => h3.block k hk (by simp)⟩, (World.ownsRow.lt h2 _ rfl).2⟩
  rw [h2.cellAt r (by omega), List.getElem?_replicate, if_pos hr]
theorem Enc.start {w w1 w2 w3 : World} {B n R : Nat} (hB : B ≤ w.heap.size) (ho : Own w1 B (.slice (some ⟨w.heap.size, 0, none⟩) n n) (List.replicate n ⟨#[]⟩)) (h1 : w.heap.size < w1.heap.size) (b2 : Below w1.heap.size w1 w2)
    (hc : ∀ r, r < R → w3.cell? ⟨w2.heap.size, r, none⟩ = some (.slice none 0 0)) (hf : ∀ r, r < R → w3.frozen? ⟨w2.heap.size, r, none⟩ = false) (b3 : Below w2.heap.size w2 w3) (h3 : w2.heap.size < w3.heap.size) :
    Enc w3 B w.heap.size w2.heap.size n R (List.replicate n ⟨#[]⟩) (fun _ => .slice none 0 0) (fun _ => []) := by
  have := b2.size
  have := b3.size
  exact ⟨by omega, hB, by omega, by omega, (ho.below b2).below b3, h3, by omega, hc, hf, fun r hr => World.ownsRow_nil _ _ _ _, fun r hr b hb => by simp [Value.ownBlock] at hb, fun r r' _ _ _ b hb => by simp [Value.ownBlock] at hb⟩

/-- Behind the first j columns: the data columns' texts are laid. -/
def Laid1 (L : List C) (f : Nat → ByteArray) (n j : Nat) (X : List ByteArray) : Prop := X.length = n ∧ ∀ i, i < n → X[i]? = some (if parAt L i = false ∧ i < j then f (dct L i) else ⟨#[]⟩)
theorem laid1_zero (L : List C) (f : Nat → ByteArray) (n : Nat) : Laid1 L f n 0 (List.replicate n ⟨#[]⟩) := ⟨by simp, fun i hi => by rw [List.getElem?_replicate, if_pos hi, if_neg (by omega)]⟩
theorem laid1_par {L : List C} {f : Nat → ByteArray} {n j : Nat} {X : List ByteArray} (h : Laid1 L f n j X) (hp : parAt L j = true) : Laid1 L f n (j + 1) X := by
  refine ⟨h.1, fun i hi => ?_⟩
  rw [h.2 i hi]
  congr 1
  by_cases hq : parAt L i = false
  · by_cases hij : i < j
    · rw [if_pos ⟨hq, hij⟩, if_pos ⟨hq, by omega⟩]
    · rw [if_neg (fun h => hij h.2), if_neg]
      rintro ⟨_, h'⟩
      obtain rfl : i = j := by omega
      rw [hp] at hq
      cases hq
  · rw [if_neg (fun h => hq h.1), if_neg (fun h => hq h.1)]
theorem laid1_data {L : List C} {f : Nat → ByteArray} {n j : Nat} {X : List ByteArray} (h : Laid1 L f n j X) (hp : parAt L j = false) (hj : j < n) : Laid1 L f n (j + 1) (X.set j (f (dct L j))) := by
  refine ⟨by simpa using h.1, fun i hi => ?_⟩
  by_cases e : j = i
  · subst e
    rw [List.getElem?_set_self (by rw [h.1]; exact hj), if_pos ⟨hp, by omega⟩]
  · rw [List.getElem?_set_ne e, h.2 i hi]
    congr 1
    by_cases hq : parAt L i = false ∧ i < j
    · rw [if_pos hq, if_pos ⟨hq.1, by omega⟩]
    · rw [if_neg hq, if_neg (fun h => hq ⟨h.1, by omega⟩)]
/-- And of the first j columns the parities. -/
def Laid2 (L : List C) (f : Nat → ByteArray) (n j : Nat) (X : List ByteArray) : Prop := X.length = n ∧ ∀ i, i < n → X[i]? = some (if parAt L i = false ∨ i < j then encAt L f i else ⟨#[]⟩)
theorem laid2_zero {L : List C} {f : Nat → ByteArray} {n : Nat} {X : List ByteArray} (h : Laid1 L f n n X) : Laid2 L f n 0 X := by
  refine ⟨h.1, fun i hi => ?_⟩
  rw [h.2 i hi]
  congr 1
  cases hp : parAt L i with
  | false => rw [if_pos ⟨rfl, hi⟩, if_pos (.inl rfl), encAt, hp]; rfl
  | true => rw [if_neg (by simp), if_neg (by simp)]
theorem laid2_data {L : List C} {f : Nat → ByteArray} {n j : Nat} {X : List ByteArray} (h : Laid2 L f n j X) (hp : parAt L j = false) : Laid2 L f n (j + 1) X := by
  refine ⟨h.1, fun i hi => ?_⟩
  rw [h.2 i hi]
  congr 1
  by_cases hq : parAt L i = false ∨ i < j
  · rw [if_pos hq, if_pos (hq.imp id fun h => by omega)]
  · rw [if_neg hq, if_neg]
    rintro (h' | h')
    · exact hq (.inl h')
    · by_cases e : i = j
      · subst e; exact hq (.inl hp)
      · exact hq (.inr (by omega))
theorem laid2_par {L : List C} {f : Nat → ByteArray} {n j : Nat} {X : List ByteArray} (h : Laid2 L f n j X) (hj : j < n) : Laid2 L f n (j + 1) (X.set j (encAt L f j)) := by
  refine ⟨by simpa using h.1, fun i hi => ?_⟩
  by_cases e : j = i
  · subst e
    rw [List.getElem?_set_self (by rw [h.1]; exact hj), if_pos (.inr (by omega))]
  · rw [List.getElem?_set_ne e, h.2 i hi]
    congr 1
    by_cases hq : parAt L i = false ∨ i < j
    · rw [if_pos hq, if_pos (hq.imp id fun h => by omega)]
    · rw [if_neg hq, if_neg (fun h => hq (h.imp id fun h => by omega))]
theorem laid2_all {L : List C} {f : Nat → ByteArray} {n : Nat} {X : List ByteArray} (h : Laid2 L f n n X) (hn : L.length = n) : X = encL L f := by
  apply List.ext_getElem?
  intro i
  by_cases hi : i < n
  · rw [h.2 i hi, if_pos (.inr hi), List.getElem?_eq_getElem (by rw [encL_len, hn]; exact hi), encL_get]
  · rw [List.getElem?_eq_none (by rw [h.1]; omega), List.getElem?_eq_none (by rw [encL_len, hn]; omega)]
theorem rowD_push (L : List C) (f : Nat → ByteArray) (j rn : Nat) (hp : parAt L j = false) (hr : rowAt L j = (rn : Int)) :
    (fun i : Nat => if i = rn then rowD L f (rn : Int) j ++ [f (dct L j)] else rowD L f (i : Int) j) = fun i : Nat => rowD L f (i : Int) (j + 1) := by
  funext i
  by_cases e : i = rn
  · subst e; rw [if_pos rfl, rowD_yes hp hr]
  · rw [if_neg e, rowD_no (.inr (by rw [hr]; omega))]
theorem rowD_skip (L : List C) (f : Nat → ByteArray) (j : Nat) (hp : parAt L j = true) : (fun i : Nat => rowD L f (i : Int) j) = fun i : Nat => rowD L f (i : Int) (j + 1) := by
  funext i
  rw [rowD_no (.inl hp)]
end Go.Proofs.Ytpalgadokdcgnaa

/- code.Encode, walked. -/
namespace Go.Proofs.Ytpalgadokdcgnaa
set_option maxRecDepth 100000
open Go.RowKit M

theorem rowD_small {L : List C} {f : Nat → ByteArray} {r : Int} {k N : Nat} (hf : ∀ n, (f n).size ≤ N) : ∀ s ∈ rowD L f r k, s.size ≤ N := by
  intro s hs
  obtain ⟨j, _, rfl⟩ := List.mem_map.1 hs
  exact hf _

set_option maxHeartbeats 4000000 in
theorem encode_core (l : List (Int × Int)) (sc : Int) (a : Option Addr) (n0 c0 : Nat) (w : World) (h : Meas w (.agg #[.slice a n0 c0, .int .i64 sc]) l sc) (k t z : Nat) (L : List C) (R : Nat) (hz1 : 1 ≤ z) (hz4 : z ≤ 4) (hL0 : 0 < L.length) (hL : L.length ≤ 32) (hR4 : R ≤ 4)
    (hrow : ∀ j (h : j < L.length), 0 ≤ L[j].row ∧ L[j].row < R) (hlast : ∃ j, ∃ h : j < L.length, L[j].row = (R : Int) - 1) (s : ByteArray) (N : Nat) (hN : s.size = N) (hs : N = z * 64)
    (HO : ∀ w1, Below w.heap.size w w1 → Meas w1 (.agg #[.slice a n0 c0, .int .i64 sc]) l sc → Calls Try.prog 11 #[.agg #[.slice a n0 c0, .int .i64 sc], .agg #[.int .i64 (k : Int), .int .i64 (t : Int)], .int .i64 (z : Int)] w1 fun e w' => ∃ v', e = .returned (.tuple #[v', .int .i64 0]) ∧ OwnC w1.heap.size w' v' L ∧ Below w1.heap.size w1 w') :
    Calls Try.prog 10 #[.agg #[.slice a n0 c0, .int .i64 sc], .agg #[.int .i64 (k : Int), .int .i64 (t : Int)], .string s] w fun e w' => ∃ v', e = .returned (.tuple #[v', .int .i64 0]) ∧ Own w' w.heap.size v' (encL L fun i => sect s (i % z)) ∧ Below w.heap.size w w' := by
  obtain ⟨f, hf⟩ : ∃ f : Nat → ByteArray, f = fun i => sect s (i % z) := ⟨_, rfl⟩
  rw [← hf]
  have K1 := Lib.hid (HeldP.start k t h)
  have HC := Lib.hid (HO _ K1.out.h.below K1.out.h.m)
  have HS : Hid (s.size = z * 64) := Lib.hid (by rw [hN, hs])
  have hN4 : N ≤ 256 := by omega
  have q1 : (N : Int) % 64 = 0 := by omega
  have q2 : (N : Int) / 64 = (z : Int) := by omega
  have q3 : Int.tmod (N : Int) 64 = 0 := by rw [Int.tmod_eq_emod_of_nonneg (by omega)]; exact q1
  have q4 : Int.tdiv (N : Int) 64 = (z : Int) := by rw [Int.tdiv_eq_ediv_of_nonneg (by omega)]; exact q2
  have HF := Lib.hid hf
  have HROW := Lib.hid hrow
  have HLAST := Lib.hid hlast
  have HFS : Hid (∀ i, (f i).size ≤ 64) := Lib.hid fun i => by
    rw [hf]
    show (sect s (i % z)).size ≤ 64
    rw [sect_size (z := z) (by rw [hN, hs]) (Nat.mod_lt _ hz1)]
    exact Nat.le_refl _
  clear h HO hs hf hrow hlast
  go_enter Try.func10, Try.ntmps10
  go_wp2_with fail
  refine HC.out.mono ?_
  rintro e w1 ⟨v1, rfl, ho1, b1⟩
  have HB1 : Hid (Below w.heap.size w w1) := Lib.hid (next K1.out.h.below b1)
  have HV := Lib.hid ho1.v
  clear ho1 b1 HC K1
  obtain ⟨g, n, c, rfl, hn, hg, hC⟩ := HV.out.some hL0
  have HCC := Lib.hid hC
  have HN := Lib.hid hn
  rw [hn] at hL0 hL
  clear hC hn
  obtain ⟨w2, hm1, hO2, b2, s2⟩ := make_texts w1 w1.heap.size n (Nat.le_refl _) (by omega)
  have HO2 := Lib.hid hO2
  have HB2 := Lib.hid b2
  clear hO2 b2
  go_wp2_with fail
  refine (rows_any w2 L g n c (Nat.lt_of_lt_of_le hg HB2.out.size) HN.out (by omega) (fun j hj => (HCC.out j hj).below hg HB2.out) R (by omega) HROW.out HLAST.out).mono ?_
  rintro e w3 ⟨rfl, b3⟩
  obtain ⟨w4, hm2, hc4, hf4, b4, s4⟩ := make_rows w3 R (by omega)
  have HE := Lib.hid (Enc.start (Nat.le_refl _) HO2.out s2 b3 hc4 hf4 b4 s4)
  have HBB : Hid (Below w1.heap.size w1 w4) := Lib.hid (HB2.out.trans ((b3.trans (b4.mono b3.size)).mono HB2.out.size))
  have HBR : Hid (w1.heap.size ≤ w3.heap.size) := Lib.hid (Nat.le_trans (Nat.le_of_lt s2) b3.size)
  clear HO2 HB2 b3 hc4 hf4 b4 s4 s2
  go_wp2_with fail
  clear hm1 hm2
  generalize hgt : w1.heap.size = gt at *
  generalize hgr : w3.heap.size = gr at *
  have HGT := Lib.hid hgt
  have HGR := Lib.hid hgr
  clear hgt hgr
  go_loopw [13, 43] (fun t13 i43 wr => ∃ (j d : Nat), j ≤ n ∧ d ≤ j ∧ i43 = .int .i64 (j : Int) ∧ t13 = .int .i64 (d : Int) ∧ Hid (dct L j = d) ∧ Hid (∃ X V, Enc wr gt gt gr n R X V (fun r : Nat => rowD L f (r : Int) j) ∧ Laid1 L f n j X) ∧ Hid (Below gt w1 wr)) (fun _ i _ => n - (intOf i).toNat)
  case atStart => exact ⟨0, 0, Nat.zero_le _, Nat.le_refl _, rfl, rfl, Lib.hid rfl, Lib.hid ⟨_, _, HE.out, laid1_zero L f n⟩, HBB⟩
  case round =>
    obtain ⟨j, d, hj, hdj, rfl, rfl, HD, HX, HW⟩ := hrel
    have hsz := HW.out.size
    rw [HGT.out] at hsz
    by_cases hjn : j < n
    · have hjL : j < L.length := by rw [HN.out]; exact hjn
      obtain ⟨x, hx⟩ : ∃ x, L[j] = x := ⟨_, rfl⟩
      have hCx := (HCC.out j hjL).below hg HW.out
      have hrw := HROW.out j hjL
      have hct := dct_succ hjL
      rw [hx] at hCx hrw hct
      obtain ⟨e0, e1, e2, e3⟩ := hCx
      have HPX : Hid (parAt L j = x.par) := Lib.hid (by rw [parAt_eq hjL, hx])
      have HRX : Hid (rowAt L j = x.row) := Lib.hid (by rw [rowAt_eq hjL, hx])
      obtain ⟨X, V, hE, hX⟩ := HX.out
      have HEr := Lib.hid hE
      have HXr := Lib.hid hX
      clear hx hjL hE hX HX
      obtain ⟨rn, hrn⟩ := Int.eq_ofNat_of_zero_le hrw.1
      rw [hrn] at e3 hrw HRX
      have hrR : rn < R := by omega
      clear hrw
      cases hp : x.par with
      | true =>
        rw [hp] at e2 hct
        have HNX := Lib.hid (rowD_skip L f j (by rw [HPX.out]; exact hp))
        have HPT : Hid (parAt L j = true) := Lib.hid (by rw [HPX.out]; exact hp)
        have HCT : Hid (dct L (j + 1) = d) := Lib.hid (by rw [hct, HD.out]; rfl)
        clear hp hct HPX
        go_wp2
        go_roundw
        case rel => exact ⟨j + 1, d, by omega, by omega, by go_num, rfl, HCT, Lib.hid ⟨X, V, by rw [← HNX.out]; exact HEr.out.next (boxed _ _), laid1_par HXr.out HPT.out⟩, Lib.hid (HW.out.alloc hsz _)⟩
        case measure => simp [intOf]; omega
      | false =>
        rw [hp] at e2 hct
        have HPF : Hid (parAt L j = false) := Lib.hid (by rw [HPX.out]; exact hp)
        have HCT : Hid (dct L (j + 1) = d + 1) := Lib.hid (by rw [hct, HD.out]; rfl)
        obtain ⟨q, hq⟩ : ∃ q : Nat, (d : Int) % (z : Int) = (q : Int) := ⟨d % z, by simp⟩
        have HQ : Hid (d % z = q) := Lib.hid (by have : ((d % z : Nat) : Int) = (q : Int) := by rw [← hq]; simp
                                                 omega)
        have hq8 : (q : Int) < z := by rw [← hq]; exact Int.emod_lt_of_pos _ (by omega)
        have hz0 : ((z : Int) == 0) = false := by simp; omega
        obtain ⟨y, hy⟩ : ∃ y, f (dct L j) = y := ⟨_, rfl⟩
        have HY : Hid (sect s q = y) := Lib.hid (by rw [← hy, HD.out, HF.out, ← HQ.out])
        have HYF := Lib.hid hy
        have bx := boxed wr (.cells #[.int .i64 x.dev, .int .i64 x.at_, .bool false, .int .i64 (rn : Int)] 40)
        have hE1 := HEr.out.next bx
        have hcb : (wr.alloc (.cells #[.int .i64 x.dev, .int .i64 x.at_, .bool false, .int .i64 (rn : Int)] 40)).cell? ⟨wr.heap.size, 3, none⟩ = some (.int .i64 (rn : Int)) := by simp
        have HE1 := Lib.hid hE1
        have HCB := Lib.hid hcb
        clear hp hct HPX hy hE1 hcb
        go_wp2_with fail
        refine (sector_any s q z _ HS.out (by omega) (by omega)).mono ?_
        rintro e w5 ⟨rfl, b5⟩
        rw [HY.out]
        have hE5 := HE1.out.next b5
        have hs5 := b5.size
        rw [World.size_alloc] at hs5
        have hcb := (b5.cell (p := ⟨wr.heap.size, 3, none⟩) (by simp)).trans HCB.out
        obtain ⟨_, ex, _, _, hXl, _, hfz, hcl⟩ := hE5.own.at_ hL0
        cases ex
        have hcj := hcl j (by rw [hXl]; exact hjn)
        generalize X[j]'(by rw [hXl]; exact hjn) = yold at hcj
        have htl := HEr.out.tlt
        have hfj := hfz j hjn
        have hE6 := hE5.text j hjn y
        have hcb6 : (w5.setCell ⟨gt, j, none⟩ (.string y)).cell? ⟨wr.heap.size, 3, none⟩ = some (.int .i64 (rn : Int)) := by
          rw [World.cell?_setCell_other _ _ _ _ (by intro h'; have := congrArg Addr.block h'; dsimp only at this; omega)]; exact hcb
        have hcj6 : (w5.setCell ⟨gt, j, none⟩ (.string y)).cell? ⟨gt, j, none⟩ = some (.string y) := World.cell?_setCell_same _ _ _ hcj
        have HX6 : Hid (Laid1 L f n (j + 1) (X.set j y)) := Lib.hid (by rw [← HYF.out]; exact laid1_data HXr.out HPF.out hjn)
        have HE6 := Lib.hid hE6
        have HW6 : Hid (Below gt w1 (w5.setCell ⟨gt, j, none⟩ (.string y))) := Lib.hid (((HW.out.alloc hsz _).trans (b5.mono (by simp; omega))).setCell (p := ⟨gt, j, none⟩) (Nat.le_refl _) _)
        have HCB6 := Lib.hid hcb6
        have HCJ6 := Lib.hid hcj6
        have hlt6 : wr.heap.size < (w5.setCell ⟨gt, j, none⟩ (.string y)).heap.size := by simp [World.setCell]; omega
        have HVB : Hid (∀ b, (V rn).ownBlock = some b → b < wr.heap.size) := Lib.hid fun b hb => (World.ownsRow.lt (HEr.out.rows rn hrR) b hb).2
        clear hE5 hE6 hcl hfz hXl hcb6 hcj6 hcb b5 hs5 bx
        go_wp2_with fail
        generalize w5.setCell ⟨gt, j, none⟩ (.string y) = w6 at *
        clear hcj hfj
        obtain ⟨va, vn, vc, hVs⟩ : ∃ va vn vc, V rn = .slice va vn vc := by
          rcases (HE6.out.rows rn hrR).2 with ⟨e, _⟩ | ⟨_, _, _, e, _⟩
          · exact ⟨_, _, _, e⟩
          · exact ⟨_, _, _, e⟩
        have S2 := HE6.out.cell rn hrR
        rw [hVs] at S2
        have S1 := HCB6.out
        have S3 := HCJ6.out
        have HVS := Lib.hid hVs
        have hj1 : ((j : Int)).toNat = j := by omega
        have hr1 : ((rn : Int)).toNat = rn := by omega
        clear hVs e0 e1 e2 e3
        refine wp_region_S 15 (fun w' => w'.cell? ⟨wr.heap.size, 3, none⟩ = some (.int .i64 (rn : Int)) ∧ w'.cell? ⟨gr, rn, none⟩ = some (.slice va vn vc) ∧ w'.cell? ⟨gt, j, none⟩ = some (.string y)) (by kernel_rfl) ?_
        have hS : w6.drew.cell? ⟨wr.heap.size, 3, none⟩ = some (.int .i64 (rn : Int)) ∧ w6.drew.cell? ⟨gr, rn, none⟩ = some (.slice va vn vc) ∧ w6.drew.cell? ⟨gt, j, none⟩ = some (.string y) := ⟨S1, S2, S3⟩
        clear S1 S2 S3
        refine wpAnyS_take (i := 0) (.slice (some ⟨gr, 0, none⟩) R R) rfl (by kernel_rfl) (by kernel_rfl) (by kernel_rfl) (by kernel_rfl) (fun _ _ _ h => h) (Or.inl ⟨by rfl, fun w' hw' => ?_⟩) hS ?_
        · (obtain ⟨h1, h2, h3⟩ := hw'; go_simp)
        (try go_frame)
        refine wpAnyS_take (i := 1) (.pointer (some ⟨wr.heap.size, 3, none⟩)) rfl (by kernel_rfl) (by kernel_rfl) (by kernel_rfl) (by kernel_rfl) (fun _ _ _ h => h) (Or.inl ⟨by rfl, fun w' hw' => ?_⟩) hS ?_
        · (obtain ⟨h1, h2, h3⟩ := hw'; go_simp)
        (try go_frame)
        refine wpAnyS_take (i := 2) (.int .i64 (rn : Int)) rfl (by kernel_rfl) (by kernel_rfl) (by kernel_rfl) (by kernel_rfl) (fun _ _ _ h => h) (Or.inl ⟨by rfl, fun w' hw' => ?_⟩) hS ?_
        · (obtain ⟨h1, h2, h3⟩ := hw'; go_simp)
        (try go_frame)
        refine wpAnyS_take (i := 3) (.slice (some ⟨gr, 0, none⟩) R R) rfl (by kernel_rfl) (by kernel_rfl) (by kernel_rfl) (by kernel_rfl) (fun _ _ _ h => h) (Or.inl ⟨by rfl, fun w' hw' => ?_⟩) hS ?_
        · (obtain ⟨h1, h2, h3⟩ := hw'; go_simp)
        (try go_frame)
        refine wpAnyS_take (i := 4) (.pointer (some ⟨wr.heap.size, 3, none⟩)) rfl (by kernel_rfl) (by kernel_rfl) (by kernel_rfl) (by kernel_rfl) (fun _ _ _ h => h) (Or.inl ⟨by rfl, fun w' hw' => ?_⟩) hS ?_
        · (obtain ⟨h1, h2, h3⟩ := hw'; go_simp)
        (try go_frame)
        refine wpAnyS_take (i := 5) (.int .i64 (rn : Int)) rfl (by kernel_rfl) (by kernel_rfl) (by kernel_rfl) (by kernel_rfl) (fun _ _ _ h => h) (Or.inl ⟨by rfl, fun w' hw' => ?_⟩) hS ?_
        · (obtain ⟨h1, h2, h3⟩ := hw'; go_simp)
        (try go_frame)
        refine wpAnyS_take (i := 6) (.pointer (some ⟨gr, rn, none⟩)) rfl (by kernel_rfl) (by kernel_rfl) (by kernel_rfl) (by kernel_rfl) (fun _ _ _ h => h) (Or.inl ⟨by rfl, fun w' hw' => ?_⟩) hS ?_
        · (obtain ⟨h1, h2, h3⟩ := hw'; go_simp)
        (try go_frame)
        refine wpAnyS_take (i := 7) (.slice va vn vc) rfl (by kernel_rfl) (by kernel_rfl) (by kernel_rfl) (by kernel_rfl) (fun _ _ _ h => h) (Or.inl ⟨by rfl, fun w' hw' => ?_⟩) hS ?_
        · (obtain ⟨h1, h2, h3⟩ := hw'; go_simp)
        (try go_frame)
        refine wpAnyS_take (i := 8) (.slice (some ⟨gt, 0, none⟩) n n) rfl (by kernel_rfl) (by kernel_rfl) (by kernel_rfl) (by kernel_rfl) (fun _ _ _ h => h) (Or.inl ⟨by rfl, fun w' hw' => ?_⟩) hS ?_
        · (obtain ⟨h1, h2, h3⟩ := hw'; go_simp)
        (try go_frame)
        refine wpAnyS_take (i := 9) (.int .i64 (j : Int)) rfl (by kernel_rfl) (by kernel_rfl) (by kernel_rfl) (by kernel_rfl) (fun _ _ _ h => h) (Or.inl ⟨by rfl, fun w' hw' => ?_⟩) hS ?_
        · (obtain ⟨h1, h2, h3⟩ := hw'; go_simp)
        (try go_frame)
        refine wpAnyS_take (i := 10) (.pointer (some ⟨gt, j, none⟩)) rfl (by kernel_rfl) (by kernel_rfl) (by kernel_rfl) (by kernel_rfl) (fun _ _ _ h => h) (Or.inl ⟨by rfl, fun w' hw' => ?_⟩) hS ?_
        · (obtain ⟨h1, h2, h3⟩ := hw'; go_simp)
        (try go_frame)
        refine wpAnyS_take (i := 11) (.string y) rfl (by kernel_rfl) (by kernel_rfl) (by kernel_rfl) (by kernel_rfl) (fun _ _ _ h => h) (Or.inl ⟨by rfl, fun w' hw' => ?_⟩) hS ?_
        · (obtain ⟨h1, h2, h3⟩ := hw'; go_simp)
        (try go_frame)
        refine wpAnyS_step (i := 12) (by kernel_rfl) rfl rfl fun K hK => ?_
        go_simp
        have b7 : Below w6.heap.size w6 (w6.alloc (.cells #[.string y] 9)).drew := ((Below.refl _ w6).alloc (Nat.le_refl _) _).drew
        have hE7 := HE6.out.next b7
        have hS7 : (w6.alloc (.cells #[.string y] 9)).drew.cell? ⟨wr.heap.size, 3, none⟩ = some (.int .i64 (rn : Int)) ∧ (w6.alloc (.cells #[.string y] 9)).drew.cell? ⟨gr, rn, none⟩ = some (.slice va vn vc) ∧ (w6.alloc (.cells #[.string y] 9)).drew.cell? ⟨gt, j, none⟩ = some (.string y) :=
          ⟨(b7.cell (p := ⟨wr.heap.size, 3, none⟩) hlt6).trans hS.1, (b7.cell (p := ⟨gr, rn, none⟩) HE6.out.lt).trans hS.2.1, (b7.cell (p := ⟨gt, j, none⟩) HE6.out.tlt).trans hS.2.2⟩
        have HB7 : Hid (Below gt w1 (w6.alloc (.cells #[.string y] 9)).drew) := Lib.hid (HW6.out.trans (b7.mono HE6.out.hB))
        have hnew : (w6.alloc (.cells #[.string y] 9)).drew.cell? ⟨w6.heap.size, 0, none⟩ = some (.string y) := by
          show (w6.alloc (.cells #[.string y] 9)).cell? ⟨w6.heap.size, 0, none⟩ = _
          simp
        refine hK _ _ (fun _ => hS7) ?_
        clear hK hS b7
        (try go_frame)
        generalize hw7 : (w6.alloc (.cells #[.string y] 9)).drew = w7 at *
        have hlt7 : wr.heap.size < w7.heap.size := by rw [← hw7]; show wr.heap.size < (w6.alloc (.cells #[.string y] 9)).heap.size; simp; omega
        clear hw7
        have hrows := hE7.rows rn hrR
        rw [HVS.out] at hrows
        obtain ⟨v8, w8, e8, hO8, hg8, hb8⟩ := app_row w7 gt (.slice va vn vc) _ y w6.heap.size 0 1 hrows hnew hE7.hB (Nat.le_trans (Nat.add_le_add_right (rowD_len L f (rn : Int) j) 1) (by omega)) 27
        have hS8 : w8.cell? ⟨wr.heap.size, 3, none⟩ = some (.int .i64 (rn : Int)) ∧ w8.cell? ⟨gr, rn, none⟩ = some (.slice va vn vc) ∧ w8.cell? ⟨gt, j, none⟩ = some (.string y) := by
          have hne : ∀ b, b = wr.heap.size ∨ b = gr ∨ b = gt → some b ≠ (Value.slice va vn vc).ownBlock := fun b hb e => by
            rw [← HVS.out] at e
            have h1 := HVB.out b e.symm
            have h2 := HE6.out.apart rn hrR b e.symm
            omega
          exact ⟨hg8.cell (a := ⟨wr.heap.size, 3, none⟩) hS7.1 (hne _ (.inl rfl)), hg8.cell (a := ⟨gr, rn, none⟩) hS7.2.1 (hne _ (.inr (.inl rfl))), hg8.cell (a := ⟨gt, j, none⟩) hS7.2.2 (hne _ (.inr (.inr rfl)))⟩
        have hB8 : Below gt w1 w8 := HB7.out.trans ((Below.refl _ w7).grown hg8 hE7.hB fun b hb => (World.ownsRow.lt hrows b hb).1)
        have hfr8 : w8.frozen? ⟨gr, rn, none⟩ = false := by
          rw [World.frozen?_of_block (w := w7) (a := ⟨gr, rn, none⟩) (hg8.block gr hE7.lt fun e => by rw [← HVS.out] at e; exact (hE7.apart rn hrR gr e.symm).2 rfl)]
          exact hE7.frz rn hrR
        have hE9 := hE7.push rn hrR v8 _ (by rw [HVS.out]; exact hg8) hO8 (by rw [HVS.out]; exact hb8)
        have HR9 : Hid ((fun i : Nat => if i = rn then rowD L f (rn : Int) j ++ [y] else rowD L f (i : Int) j) = fun i : Nat => rowD L f (i : Int) (j + 1)) := Lib.hid (by rw [← HYF.out]; exact rowD_push L f j rn HPF.out HRX.out)
        rw [HR9.out] at hE9
        have HE9 := Lib.hid hE9
        obtain ⟨ua, un, uc, hu⟩ : ∃ ua un uc, v8 = .slice ua un uc := by
          rcases hO8.2 with ⟨e, _⟩ | ⟨_, _, _, e, _⟩
          · exact ⟨_, _, _, e⟩
          · exact ⟨_, _, _, e⟩
        subst hu
        clear hE9 hO8 hg8 hb8 hrows hnew hE7 hS7
        refine wpAnyS_step (i := 13) (by kernel_rfl) rfl rfl fun K hK => Lib.wp_append_run _ _ _ _ _ rfl _ _ rfl rfl _ _ e8 ?_
        refine hK _ _ (fun _ => hS8) ?_
        clear hK
        have hS := hS8
        (try go_frame)
        refine wpAnyS_take (i := 14) (.pointer (some ⟨gr, rn, none⟩)) rfl (by kernel_rfl) (by kernel_rfl) (by kernel_rfl) (by kernel_rfl) (fun _ _ _ h => h) (Or.inl ⟨by rfl, fun w' hw' => ?_⟩) hS ?_
        · (obtain ⟨h1, h2, h3⟩ := hw'; go_simp)
        (try go_frame)
        refine wpAnyS_step (i := 15) (by kernel_rfl) rfl rfl fun K hK => ?_
        have hcr := hS8.2.1
        go_simp
        refine hK _ _ (fun h => absurd rfl h) ?_
        clear hK hS hS8 e8 hcr
        have HB9 : Hid (Below gt w1 (w8.setCell ⟨gr, rn, none⟩ (.slice ua un uc))) := Lib.hid (hB8.setCell (p := ⟨gr, rn, none⟩) HBR.out _)
        generalize w8.setCell ⟨gr, rn, none⟩ (.slice ua un uc) = w9 at *
        refine wpAnyS_done (by kernel_rfl) ?_ _
        clear hB8 hfr8
        go_wp2
        go_roundw
        case rel => exact ⟨j + 1, d + 1, by omega, by omega, by go_num, by go_num, HCT, Lib.hid ⟨_, _, HE9.out, HX6.out⟩, HB9⟩
        case measure => simp [intOf]; omega
    · obtain rfl : j = n := by omega
      have HX2 : Hid (∃ X V, Enc wr gt gt gr j R X V (fun r : Nat => rowD L f (r : Int) j) ∧ Laid2 L f j 0 X) := Lib.hid (by
        obtain ⟨X, V, hE, hX⟩ := HX.out
        exact ⟨X, V, hE, laid2_zero hX⟩)
      have HW0 := Lib.hid HW.out
      clear HX HW HE HBB
      go_wp2_with fail
      rename World => w7
      go_loopw [78] (fun i78 wr => ∃ i : Nat, i ≤ j ∧ i78 = .int .i64 (i : Int) ∧ Hid (∃ X V, Enc wr gt gt gr j R X V (fun r : Nat => rowD L f (r : Int) j) ∧ Laid2 L f j i X) ∧ Hid (Below gt w1 wr)) (fun i _ => j - (intOf i).toNat)
      case atStart => exact ⟨0, Nat.zero_le _, rfl, HX2, HW0⟩
      case round =>
        obtain ⟨i, hi, rfl, HX, HW⟩ := hrel
        clear HX2 HW0
        have hsz := HW.out.size
        rw [HGT.out] at hsz
        by_cases hin : i < j
        · have hiL : i < L.length := by rw [HN.out]; exact hin
          obtain ⟨x, hx⟩ : ∃ x, L[i] = x := ⟨_, rfl⟩
          have hCx := (HCC.out i hiL).below hg HW.out
          have hrw := HROW.out i hiL
          rw [hx] at hCx hrw
          obtain ⟨e0, e1, e2, e3⟩ := hCx
          have HPX : Hid (parAt L i = x.par) := Lib.hid (by rw [parAt_eq hiL, hx])
          have HRX : Hid (rowAt L i = x.row) := Lib.hid (by rw [rowAt_eq hiL, hx])
          obtain ⟨X, V, hE, hX⟩ := HX.out
          have HEr := Lib.hid hE
          have HXr := Lib.hid hX
          clear hx hiL hE hX HX
          obtain ⟨rn, hrn⟩ := Int.eq_ofNat_of_zero_le hrw.1
          rw [hrn] at e3 hrw HRX
          have hrR : rn < R := by omega
          clear hrw
          cases hp : x.par with
          | false =>
            rw [hp] at e2
            have HPF : Hid (parAt L i = false) := Lib.hid (by rw [HPX.out]; exact hp)
            clear hp HPX
            go_wp2
            go_roundw
            case rel => exact ⟨i + 1, by omega, by go_num, Lib.hid ⟨X, V, HEr.out.next (boxed _ _), laid2_data HXr.out HPF.out⟩, Lib.hid (HW.out.alloc hsz _)⟩
            case measure => simp [intOf]; omega
          | true =>
            rw [hp] at e2
            obtain ⟨y, hy⟩ : ∃ y, mkB (rowD L f (rn : Int) j) = y := ⟨_, rfl⟩
            have HY : Hid (encAt L f i = y) := Lib.hid (by rw [← hy, encAt, HPX.out, hp, HRX.out, HN.out]; rfl)
            have HYY := Lib.hid hy
            have bx := boxed wr (.cells #[.int .i64 x.dev, .int .i64 x.at_, .bool true, .int .i64 (rn : Int)] 40)
            have hE1 := HEr.out.next bx
            have hrc := hE1.cell rn hrR
            obtain ⟨va, vn, vc, hVs⟩ : ∃ va vn vc, V rn = .slice va vn vc := by
              rcases (HEr.out.rows rn hrR).2 with ⟨e, _⟩ | ⟨_, _, _, e, _⟩
              · exact ⟨_, _, _, e⟩
              · exact ⟨_, _, _, e⟩
            have hrt := (hE1.rows rn hrR).txt
            rw [hVs] at hrc hrt
            have HRT := Lib.hid hrt
            have HE1 := Lib.hid hE1
            clear hp HPX hy hE1 hrt hVs
            go_wp2_with fail
            refine (make_any _ _ _ HRT.out (Nat.le_trans (rowD_len L f (rn : Int) j) (by unfold maxLen; omega)) (fun s' hs' => Nat.le_trans (rowD_small HFS.out s' hs') (by decide))).mono ?_
            rintro e w5 ⟨rfl, b5⟩
            rw [HYY.out]
            have hE5 := HE1.out.next b5
            obtain ⟨_, ex, _, _, hXl, _, hfz, hcl⟩ := hE5.own.at_ (by omega)
            cases ex
            have hcj := hcl i (by rw [hXl]; exact hin)
            generalize X[i]'(by rw [hXl]; exact hin) = yold at hcj
            have hfj := hfz i hin
            have HE6 := Lib.hid (hE5.text i hin y)
            have HX6 : Hid (Laid2 L f j (i + 1) (X.set i y)) := Lib.hid (by rw [← HY.out]; exact laid2_par HXr.out hin)
            have HW6 : Hid (Below gt w1 (w5.setCell ⟨gt, i, none⟩ (.string y))) := Lib.hid (((HW.out.alloc hsz _).trans (b5.mono (by simp; omega))).setCell (p := ⟨gt, i, none⟩) (Nat.le_refl _) _)
            clear hE5 hcl hfz hXl b5 bx hrc
            go_wp2
            go_roundw
            case rel => exact ⟨i + 1, by omega, by go_num, Lib.hid ⟨_, V, HE6.out, HX6.out⟩, HW6⟩
            case measure => simp [intOf]; omega
        · obtain rfl : i = j := by omega
          obtain ⟨X, V, hE, hX⟩ := HX.out
          have HO9 : Hid (Own wr gt (.slice (some ⟨gt, 0, none⟩) i i) (encL L f)) := Lib.hid (by rw [← laid2_all hX HN.out]; exact hE.own)
          clear hE hX HX
          go_wp2
          go_ret2
          have hgw : w.heap.size ≤ gt := by rw [← HGT.out]; exact HB1.out.size
          exact ⟨_, rfl, HO9.out.lower hgw, HB1.out.trans (HW.out.mono hgw)⟩
end Go.Proofs.Ytpalgadokdcgnaa

/- code.Encode of any block. -/
namespace Go.Proofs.Ytpalgadokdcgnaa
set_option maxRecDepth 100000
open Go.RowKit M

/-- May a text of N bytes be a block there? -/
def mayT (l : List (Int × Int)) (sc k t : Int) (N : Nat) : Bool := decide (N % 64 = 0) && mayL l sc k t ((N / 64 : Nat) : Int)

set_option maxHeartbeats 1000000 in
theorem encode_bad (l : List (Int × Int)) (sc : Int) (v : Value) (w : World) (h : Meas w v l sc) (k t : Int) (hk : I64 k) (ht : I64 t) (s : ByteArray) (hs : s.size ≤ 1000) (hno : mayT l sc k t s.size = false) :
    Calls Try.prog 10 #[v, .agg #[.int .i64 k, .int .i64 t], .string s] w fun e w' => e = .returned (.tuple #[.slice none 0 0, .int .i64 1]) ∧ Below w.heap.size w w' := by
  have K1 := h
  obtain ⟨a, n, c, rfl, hg⟩ := id h
  replace K1 := Lib.hid (HeldP.start k t K1)
  obtain ⟨N, hN⟩ : ∃ N, s.size = N := ⟨_, rfl⟩
  rw [hN] at hs hno
  by_cases hm : N % 64 = 0
  · have hno' : mayL l sc k t ((N / 64 : Nat) : Int) = false := by simpa [mayT, hm] using hno
    obtain ⟨z, hz⟩ : ∃ z, N / 64 = z := ⟨_, rfl⟩
    rw [hz] at hno'
    have q3 : Int.tmod (N : Int) 64 = 0 := by rw [Int.tmod_eq_emod_of_nonneg (by omega)]; omega
    have q4 : Int.tdiv (N : Int) 64 = (z : Int) := by rw [Int.tdiv_eq_ediv_of_nonneg (by omega)]; omega
    have hz2 : z ≤ 1000 := by omega
    have HC := Lib.hid (of_bad l sc _ _ K1.out.h.m k t (z : Int) hk ht ⟨by omega, by omega⟩ hno')
    clear h hg hno hno' hm hk ht hz
    go_enter Try.func10, Try.ntmps10
    go_wp2_with fail
    refine HC.out.mono ?_
    rintro e w1 ⟨rfl, b1⟩
    go_wp2
    go_ret2
    exact ⟨rfl, next K1.out.h.below b1⟩
  · have q3 : (Int.tmod (N : Int) 64 == 0) = false := by rw [Int.tmod_eq_emod_of_nonneg (by omega)]; simp; omega
    have q4 : ((N : Int) % 64 != 0) = true := by simp; omega
    clear h hg hno hm hk ht
    go_enter Try.func10, Try.ntmps10
    go_wp2
    go_ret2
    exact ⟨rfl, K1.out.h.below⟩

/-- The columns' texts of a block. -/
def encOf (l : List (Int × Int)) (k t z : Nat) (s : ByteArray) : List ByteArray := encL (colsOf l k t z) fun i => sect s (i % z)
theorem encOf_len (l : List (Int × Int)) (k t z : Nat) (s : ByteArray) : (encOf l k t z s).length = (colsOf l k t z).length := encL_len _ _

theorem encode_ok (l : List (Int × Int)) (sc : Int) (v : Value) (w : World) (h : Meas w v l sc) (k t z : Nat) (hB : Blk l sc k t z) (s : ByteArray) (hs : s.size = z * 64) :
    Calls Try.prog 10 #[v, .agg #[.int .i64 (k : Int), .int .i64 (t : Int)], .string s] w fun e w' => ∃ v', e = .returned (.tuple #[v', .int .i64 0]) ∧ Own w' w.heap.size v' (encOf l k t z s) ∧ Below w.heap.size w w' := by
  obtain ⟨a, n, c, rfl, hg⟩ := id h
  have hk := hB.hk
  obtain ⟨kk, u, hlk, hok⟩ : ∃ kk u, l[k] = (kk, u) ∧ okG (kk, u) = true := ⟨l[k].1, l[k].2, rfl, hB.right.all k hk⟩
  obtain ⟨u0, rfl⟩ := Int.eq_ofNat_of_zero_le (show 0 ≤ u by have := okG_wide hok; omega)
  obtain ⟨R, hR⟩ := hB.rowed hlk
  exact encode_core l sc a n c w h k t z (colsOf l k t z) R hB.z1 hB.z4 hB.laid.pos hB.laid.few hR.few hR.in_ hR.last s s.size rfl hs
    (fun w1 _ hM => of_ok l sc _ w1 hM k t z hB)

/-- What Encode answers of any block. -/
def EncB (l : List (Int × Int)) (sc k t : Int) (s : ByteArray) (B : Nat) (w : World) (v : Value) (er : Int) : Prop :=
  (mayT l sc k t s.size = false ∧ v = .slice none 0 0 ∧ er = 1) ∨ ∃ k' t' z' : Nat, k = k' ∧ t = t' ∧ s.size = z' * 64 ∧ Blk l sc k' t' z' ∧ er = 0 ∧ Own w B v (encOf l k' t' z' s)
theorem mayT_iff {l : List (Int × Int)} {sc k t : Int} {N : Nat} : mayT l sc k t N = true ↔ ∃ k' t' z' : Nat, k = k' ∧ t = t' ∧ N = z' * 64 ∧ Blk l sc k' t' z' := by
  unfold mayT
  rw [Bool.and_eq_true, decide_eq_true_iff, mayL_iff]
  constructor
  · rintro ⟨h, k', t', z', h1, h2, h3, hB⟩
    exact ⟨k', t', z', h1, h2, by omega, hB⟩
  · rintro ⟨k', t', z', h1, h2, h3, hB⟩
    refine ⟨by omega, k', t', z', h1, h2, ?_, hB⟩
    rw [h3, Nat.mul_div_cancel _ (by omega)]
theorem encode_any (l : List (Int × Int)) (sc : Int) (v : Value) (w : World) (h : Meas w v l sc) (k t : Int) (hk : I64 k) (ht : I64 t) (s : ByteArray) (hs : s.size ≤ 1000) :
    Calls Try.prog 10 #[v, .agg #[.int .i64 k, .int .i64 t], .string s] w fun e w' => ∃ v' er, e = .returned (.tuple #[v', .int .i64 er]) ∧ EncB l sc k t s w.heap.size w' v' er ∧ Below w.heap.size w w' := by
  cases hm : mayT l sc k t s.size with
  | false => exact (encode_bad l sc v w h k t hk ht s hs hm).mono fun e w' ⟨h1, h2⟩ => ⟨_, _, h1, .inl ⟨hm, rfl, rfl⟩, h2⟩
  | true =>
    obtain ⟨k', t', z', rfl, rfl, h3, hB⟩ := mayT_iff.1 hm
    exact (encode_ok l sc v w h k' t' z' hB s h3).mono fun e w' ⟨v', h1, h2, h4⟩ => ⟨_, _, h1, .inr ⟨k', t', z', rfl, rfl, h3, hB, rfl, h2⟩, h4⟩
end Go.Proofs.Ytpalgadokdcgnaa

/- Columns as they are encoded: what they come to (no program is named here). -/
namespace Go.Proofs.Ytpalgadokdcgnaa
set_option maxRecDepth 100000
open Go.RowKit M

/-- What the laws ask of a block's columns. -/
structure Sound (L : List C) : Prop where
  data : ∀ a, a < L.length → parAt L a = true → idx (fun j => !parAt L j && rowAt L j == rowAt L a) L.length ≠ []
def soundB (M : List (Int × Bool)) : Bool := M.all fun x => !x.2 || M.any fun y => !y.2 && y.1 == x.1
theorem sound_of {L : List C} (h : soundB (L.map rp) = true) : Sound L := ⟨fun a ha hp he => by
  unfold soundB at h
  rw [List.all_eq_true] at h
  have h1 := h (rp L[a]) (List.mem_map_of_mem (List.getElem_mem ha))
  rw [parAt_eq ha] at hp
  simp only [rp, hp, Bool.not_true, Bool.false_or, List.any_map, List.any_eq_true] at h1
  obtain ⟨x, hx, hx2⟩ := h1
  obtain ⟨j, hj, rfl⟩ := List.getElem_of_mem hx
  have : j ∈ idx (fun j => !parAt L j && rowAt L j == rowAt L a) L.length := idx_mem.2 ⟨hj, by rw [parAt_eq hj, rowAt_eq hj, rowAt_eq ha]; exact hx2⟩
  rw [he] at this
  cases this⟩
theorem par_sound : ∀ u : Nat, u < 9 → 3 ≤ u → ∀ z : Nat, z < 5 → 1 ≤ z → soundB ((parTo 0 0 u z).map rp) = true := by decide
theorem Blk.sound {l : List (Int × Int)} {s : Int} {k t z : Nat} (h : Blk l s k t z) : Sound (colsOf l k t z) := by
  obtain ⟨kk, u, hK⟩ := h.kinded
  rcases hK.ok with ⟨_, _, _, e, _⟩ | ⟨_, h3, h8, e, _⟩
  · rw [e]
    refine ⟨fun a ha hp => ?_⟩
    rw [parAt_eq ha, mirL_get _ _ _ h.z1] at hp
    cases hp
  · rw [e]
    exact sound_of (by rw [parTo_shape]; exact par_sound u (by omega) h3 z (by have := h.z4; omega) h.z1)

section
variable {L : List C} {f : Nat → ByteArray}
theorem rowD_sz (hf : ∀ i, (f i).size = 64) {r : Int} {k : Nat} : ∀ s ∈ rowD L f r k, s.size = 64 := by
  intro s hs
  obtain ⟨j, _, rfl⟩ := List.mem_map.1 hs
  exact hf _
theorem enc_size (hS : Sound L) (hf : ∀ i, (f i).size = 64) (a : Nat) (ha : a < L.length) : (encAt L f a).size = 64 := by
  unfold encAt
  cases hp : parAt L a with
  | true =>
    have hne : rowD L f (rowAt L a) L.length ≠ [] := by
      unfold rowD
      intro e
      exact hS.data a ha hp (List.map_eq_nil_iff.1 e)
    rw [if_pos rfl, (mk_ok (ok_of (rowD_sz hf) hne)).1, parB_size, wide_of (rowD_sz hf) hne]
  | false => rw [if_neg (by simp)]; exact hf _
theorem encL_size (hS : Sound L) (hf : ∀ i, (f i).size = 64) : ∀ s ∈ encL L f, s.size = 64 := by
  intro s hs
  obtain ⟨a, ha, rfl⟩ := List.mem_map.1 hs
  exact enc_size hS hf a (List.mem_range.1 ha)

/-- The data columns' texts, in their order, are the sectors. -/
theorem data_map (g : Nat → ByteArray) : ∀ k, k ≤ L.length → (idx (fun j => !parAt L j) k).map (fun j => g (dct L j)) = (List.range (dct L k)).map g := by
  intro k
  induction k with
  | zero => intro _; simp [idx, dct]
  | succ k ih =>
    intro hk
    have hd := dct_succ (L := L) (k := k) (by omega)
    rw [← parAt_eq (by omega : k < L.length)] at hd
    cases hp : parAt L k with
    | true =>
      rw [hp] at hd
      rw [idx_no (by simp [hp]), ih (by omega), hd]
      rfl
    | false =>
      rw [hp] at hd
      rw [idx_yes (by simp [hp]), List.map_append, ih (by omega), hd]
      simp [List.range_succ]

/-- How many parities a row has among the first k. -/
def pcN (L : List C) (r : Int) (k : Nat) : Nat := (idx (fun j => parAt L j && rowAt L j == r) k).length
theorem row_col (r : Int) (i : Nat) : ∀ k, k ≤ L.length → colx (rowG L (encL L f) r k) i = colx (rowD L f r k) i ^^^ (if pcN L r k % 2 = 1 then (mkB (rowD L f r L.length)).data.toList.getD i 0 else 0) := by
  intro k
  induction k with
  | zero => intro _; simp [rowG, rowD, idx, pcN, colx]
  | succ k ih =>
    intro hk
    have ih := ih (by omega)
    by_cases hr : rowAt L k = r
    · rw [rowG_yes hr, colx_append, colx_one, ih, encL_getD L f k (by omega)]
      cases hp : parAt L k with
      | true =>
        have hpc : pcN L r (k + 1) = pcN L r k + 1 := by unfold pcN; rw [idx_yes (by simp [hp, hr]), List.length_append]; rfl
        rw [rowD_no (.inl hp), hpc]
        have he : encAt L f k = mkB (rowD L f r L.length) := by unfold encAt; rw [hp, if_pos rfl, hr]
        rw [he, UInt8.xor_assoc]
        congr 1
        rcases Nat.mod_two_eq_zero_or_one (pcN L r k) with h | h
        · rw [if_neg (by omega), if_pos (by omega), UInt8.zero_xor]
        · rw [if_pos h, if_neg (by omega), UInt8.xor_self]
      | false =>
        have hpc : pcN L r (k + 1) = pcN L r k := by unfold pcN; rw [idx_no (by simp [hp])]
        rw [rowD_yes hp hr, colx_append, colx_one, hpc]
        have he : encAt L f k = f (dct L k) := by unfold encAt; rw [hp]; rfl
        rw [he, UInt8.xor_assoc, UInt8.xor_assoc]
        congr 1
        exact UInt8.xor_comm _ _
    · have hpc : pcN L r (k + 1) = pcN L r k := by unfold pcN; rw [idx_no (by simp [hr])]
      rw [rowG_no hr, rowD_no (.inr hr), hpc]
      exact ih
theorem row_zero (hf : ∀ i, (f i).size = 64) {r : Int} (h1 : pcN L r L.length = 1) (hne : rowD L f r L.length ≠ []) {i : Nat} (hi : i < 64) : colx (rowG L (encL L f) r L.length) i = 0 := by
  rw [row_col r i L.length (Nat.le_refl _), h1, if_pos rfl, (mk_ok (ok_of (rowD_sz hf) hne)).1, parB_at _ _ (by rw [wide_of (rowD_sz hf) hne]; exact hi), UInt8.xor_self]
/-- A column is made again by the others of its row, where these are as they are encoded. -/
theorem agn_eq (hS : Sound L) (hf : ∀ i, (f i).size = 64) {G : List ByteArray} {a : Nat} (ha : a < L.length) (h2 : 2 ≤ (idx (fun j => rowAt L j == rowAt L a) L.length).length) (h1 : pcN L (rowAt L a) L.length = 1) (hne : rowD L f (rowAt L a) L.length ≠ [])
    (hG : ∀ j, j < L.length → rowAt L j = rowAt L a → j ≠ a → G.getD j ⟨#[]⟩ = encAt L f j) : agn L G a = encAt L f a := by
  obtain ⟨r, hr, hm⟩ := idx_split (q := fun j => rowAt L j == rowAt L a) (a := a) (by simp) L.length ha
  have hO : (rowG L G (rowAt L a) L.length).eraseIdx (rowG L G (rowAt L a) a).length = (idx (fun j => rowAt L j == rowAt L a) a ++ r).map (encAt L f) := by
    unfold rowG
    rw [hr, List.length_map, List.map_append, List.map_cons, List.eraseIdx_append_of_length_le (by simp), List.length_map, Nat.sub_self, List.eraseIdx_zero, List.tail_cons, ← List.map_append]
    apply List.map_congr_left
    intro j hj
    rcases List.mem_append.1 hj with h | h
    · obtain ⟨h3, h4⟩ := idx_mem.1 h
      exact hG j (by omega) (by simpa using h4) (by omega)
    · obtain ⟨h3, h4, h5⟩ := hm j h
      exact hG j h4 (by simpa using h5) (by omega)
  have hsz : ∀ s ∈ (idx (fun j => rowAt L j == rowAt L a) a ++ r).map (encAt L f), s.size = 64 := by
    intro s hs
    obtain ⟨j, hj, rfl⟩ := List.mem_map.1 hs
    rcases List.mem_append.1 hj with h | h
    · exact enc_size hS hf j (Nat.lt_trans (idx_mem.1 h).1 ha)
    · exact enc_size hS hf j (hm j h).2.1
  have hn : (idx (fun j => rowAt L j == rowAt L a) a ++ r).map (encAt L f) ≠ [] := by
    intro e
    have e' := List.map_eq_nil_iff.1 e
    obtain ⟨e1, e2⟩ := List.append_eq_nil_iff.1 e'
    rw [hr, e1, e2] at h2
    simp at h2
  unfold agn
  rw [hO, (mk_ok (ok_of hsz hn)).1]
  refine parB_eq (by rw [wide_of hsz hn, enc_size hS hf a ha]) fun i hi => ?_
  rw [wide_of hsz hn] at hi
  have hz := row_zero hf h1 hne hi
  have hrow : rowG L (encL L f) (rowAt L a) L.length = (idx (fun j => rowAt L j == rowAt L a) a).map (encAt L f) ++ (encAt L f a :: r.map (encAt L f)) := by
    unfold rowG
    rw [hr, List.map_append, List.map_cons, encL_getD L f a ha]
    congr 1
    · apply List.map_congr_left
      intro j hj
      exact encL_getD L f j (Nat.lt_trans (idx_mem.1 hj).1 ha)
    · congr 1
      apply List.map_congr_left
      intro j hj
      exact encL_getD L f j (hm j hj).2.1
  rw [hrow, colx_append, colx_cons] at hz
  rw [List.map_append, colx_append]
  generalize colx ((idx (fun j => rowAt L j == rowAt L a) a).map (encAt L f)) i = x at hz ⊢
  generalize colx (r.map (encAt L f)) i = y at hz ⊢
  generalize (encAt L f a).data.toList.getD i 0 = e at hz ⊢
  have : x ^^^ y ^^^ e = 0 := by rw [← hz, UInt8.xor_assoc, UInt8.xor_comm y e]
  rwa [UInt8.xor_eq_zero_iff] at this
end

/-- The data as it was read, a device's made again, are the sectors. -/
theorem wth_eq {L : List C} {f : Nat → ByteArray} {G : List ByteArray} {d : Int}
    (h : ∀ j, j < L.length → parAt L j = false → (if devAt L j = d then agn L G j else G.getD j ⟨#[]⟩) = encAt L f j) : wth L G d L.length = (List.range (dct L L.length)).map f := by
  rw [← data_map f L.length (Nat.le_refl _)]
  unfold wth
  apply List.map_congr_left
  intro j hj
  obtain ⟨h1, h2⟩ := idx_mem.1 hj
  have h3 : parAt L j = false := by simpa using h2
  rw [h j h1 h3]
  unfold encAt
  rw [h3]
  rfl

/-- A block, its text, and its columns' texts. -/
structure Enc7 (l : List (Int × Int)) (sc : Int) (k t z : Nat) (s : ByteArray) (kk : Int) (u : Nat) (L : List C) (f : Nat → ByteArray) : Prop where
  blk : Blk l sc k t z
  hL : colsOf l k t z = L
  kind : Kinded l k t z kk u L
  hs : s.size = z * 64
  hf : ∀ i, (f i).size = 64
  sec : ∀ i, i < z → f i = sect s i
  mod : ∀ d i, i < z → f (d * z + i) = sect s i
  enc : encOf l k t z s = encL L f
  sound : Sound L
  rows : ∃ R, Rowed kk u z L R
theorem Blk.enc7 {l : List (Int × Int)} {sc : Int} {k t z : Nat} (h : Blk l sc k t z) {s : ByteArray} (hs : s.size = z * 64) : ∃ kk u, Enc7 l sc k t z s kk u (colsOf l k t z) fun i => sect s (i % z) := by
  obtain ⟨kk, u, hK⟩ := h.kinded
  have hk := h.hk
  have hlk : l[k] = (kk, (u : Int)) := by rw [← getD_at hk]; exact hK.grp
  exact ⟨kk, u, h, rfl, hK, hs, fun i => sect_size hs (Nat.mod_lt _ h.z1), fun i hi => by show sect s (i % z) = _; rw [Nat.mod_eq_of_lt hi],
    fun d i hi => by show sect s ((d * z + i) % z) = _; rw [Nat.add_comm, Nat.add_mul_mod_self_right, Nat.mod_eq_of_lt hi], rfl, h.sound, h.rowed hlk⟩
section
variable {l : List (Int × Int)} {sc : Int} {k t z : Nat} {s : ByteArray} {kk : Int} {u : Nat} {L : List C} {f : Nat → ByteArray}
theorem Enc7.fits (h : Enc7 l sc k t z s kk u L f) {G : List ByteArray} (hl : G.length = L.length) (hG : ∀ x ∈ G, x.size = 0 ∨ x.size = 64) : fitsL l sc k t z G = true := by
  unfold fitsL
  rw [mayL_iff.2 ⟨k, t, z, rfl, rfl, rfl, h.blk⟩]
  have e : colsI l k t z = L := h.hL
  rw [e, Bool.true_and, Bool.and_eq_true, decide_eq_true_iff]
  refine ⟨hl.symm, ?_⟩
  unfold fitL
  rw [List.all_eq_true]
  intro x hx
  unfold secT
  rw [Bool.or_eq_true, beq_iff_eq, beq_iff_eq]
  exact hG x hx
theorem Enc7.few (h : Enc7 l sc k t z s kk u L f) : 0 < L.length ∧ L.length ≤ 32 := by rw [← h.hL]; exact ⟨h.blk.laid.pos, h.blk.laid.few⟩
theorem Enc7.tries (h : Enc7 l sc k t z s kk u L f) {G : List ByteArray} (hl : G.length = L.length) (hG : ∀ x ∈ G, x.size = 0 ∨ x.size = 64) : triesOf l sc k t z G = if kk = 0 then triesM L G u z else triesP L G (-1 :: devsS ((datL L).map C.dev)) := by
  unfold triesOf
  rw [h.fits hl hG, if_pos rfl]
  show triesB l k t z G = _
  unfold triesB
  rw [h.kind.grp, h.hL]
  rfl
/-- All sectors, one behind the other. -/
theorem Enc7.joined (h : Enc7 l sc k t z s kk u L f) : joinB ((List.range z).map f) = s := by
  rw [List.map_congr_left (g := sect s) fun i hi => h.sec i (List.mem_range.1 hi)]
  exact join_sect h.hs
theorem Enc7.full (h : Enc7 l sc k t z s kk u L f) (g : Nat → ByteArray) (hg : ∀ i, i < z → g i = f i) : holeL ((List.range z).map g) = false := by
  unfold holeL
  rw [List.any_eq_false]
  intro x hx
  obtain ⟨i, hi, rfl⟩ := List.mem_map.1 hx
  rw [hg i (List.mem_range.1 hi), h.hf]
  decide
theorem Enc7.dataN (h : Enc7 l sc k t z s kk u L f) (h1 : kk = 1) : dct L L.length = z := by
  obtain ⟨R, hR⟩ := h.rows
  rw [dct_all, hR.datas, if_neg (by rw [h1]; decide)]
theorem count_congr {α : Type} {p q : α → Bool} (l : List α) (h : ∀ x ∈ l, p x = q x) : l.countP p = l.countP q := List.countP_congr fun x hx => by rw [h x hx]
theorem Enc7.one (h : Enc7 l sc k t z s kk u L f) (h1 : kk = 1) {a : Nat} (ha : a < L.length) : pcN L (rowAt L a) L.length = 1 := by
  obtain ⟨R, hR⟩ := h.rows
  obtain ⟨r0, r1⟩ := hR.in_ a ha
  obtain ⟨r, hr⟩ := Int.eq_ofNat_of_zero_le r0
  have hp := hR.pars r (by omega)
  rw [h1] at hp
  unfold pcN
  rw [rowAt_eq ha, idx_count (p := fun x : C => x.par && x.row == L[a].row) L (fun j hj => by rw [parAt_eq hj, rowAt_eq hj]) L.length (Nat.le_refl _), List.take_length]
  have : L.countP (fun x => x.par && x.row == L[a].row) = L.countP (fun x => decide (x.row = (r : Int)) && x.par) := count_congr L fun x _ => by
    rw [hr, Bool.and_comm]; congr 1
  omega
theorem Enc7.rowNe (h : Enc7 l sc k t z s kk u L f) (_ : kk = 1) {a : Nat} (ha : a < L.length) : rowD L f (rowAt L a) L.length ≠ [] := by
  intro e
  have e' := List.map_eq_nil_iff.1 e
  cases hp : parAt L a with
  | true => exact h.sound.data a ha hp e'
  | false =>
    have : a ∈ idx (fun j => !parAt L j && rowAt L j == rowAt L a) L.length := idx_mem.2 ⟨ha, by simp [hp]⟩
    rw [e'] at this
    cases this
theorem Enc7.pair (h : Enc7 l sc k t z s kk u L f) (h1 : kk = 1) : Paired L := by
  rcases h.kind.ok with h2 | h2
  · exact absurd (h1.symm.trans h2.1) (by decide)
  · exact h2.2.2.2.2
/-- A data column made again. -/
theorem Enc7.agn (h : Enc7 l sc k t z s kk u L f) (h1 : kk = 1) {G : List ByteArray} {a : Nat} (ha : a < L.length) (hp : parAt L a = false) (hG : ∀ j, j < L.length → rowAt L j = rowAt L a → j ≠ a → G.getD j ⟨#[]⟩ = encAt L f j) : agn L G a = encAt L f a :=
  agn_eq h.sound h.hf ha (h.pair h1 a ha hp) (h.one h1 ha) (h.rowNe h1 ha) hG
theorem Enc7.tryP (h : Enc7 l sc k t z s kk u L f) (h1 : kk = 1) {G : List ByteArray} {d : Int}
    (hw : ∀ j, j < L.length → parAt L j = false → (if devAt L j = d then Proofs.Ytpalgadokdcgnaa.agn L G j else G.getD j ⟨#[]⟩) = encAt L f j) : tryOf d (wth L G d L.length) = some (d, s) := by
  unfold tryOf
  rw [wth_eq hw, h.dataN h1, h.full f fun _ _ => rfl, h.joined]
  rfl
/-- A Mirror's columns. -/
theorem Enc7.mir (h : Enc7 l sc k t z s kk u L f) (h0 : kk = 0) : L = mirL (aheadL l k) t u z ∧ L.length = u * z ∧ 1 ≤ u ∧ u ≤ 8 := by
  rcases h.kind.ok with h2 | h2
  · exact ⟨h2.2.2.2.1, h2.2.2.2.2, h2.2.1, h2.2.2.1⟩
  · exact absurd (h0.symm.trans h2.1) (by decide)
theorem Enc7.noPar (h : Enc7 l sc k t z s kk u L f) (h0 : kk = 0) {j : Nat} (hj : j < L.length) : parAt L j = false := by
  rw [parAt_eq hj]
  obtain ⟨e, _⟩ := h.mir h0
  subst e
  rw [mirL_get _ _ _ h.blk.z1]
theorem Enc7.dctM (h : Enc7 l sc k t z s kk u L f) (h0 : kk = 0) : ∀ j, j ≤ L.length → dct L j = j := by
  intro j
  induction j with
  | zero => intro _; simp [dct]
  | succ j ih =>
    intro hj
    rw [dct_succ hj, ← parAt_eq hj, h.noPar h0 hj, ih (by omega)]
    rfl
theorem Enc7.encM (h : Enc7 l sc k t z s kk u L f) (h0 : kk = 0) {j : Nat} (hj : j < L.length) : encAt L f j = f j := by
  unfold encAt
  rw [h.noPar h0 hj, h.dctM h0 j (Nat.le_of_lt hj)]
  rfl
theorem Enc7.devM (h : Enc7 l sc k t z s kk u L f) (h0 : kk = 0) {j : Nat} (hj : j < L.length) : devAt L j = aheadL l k + (j / z : Nat) := by
  rw [devAt_eq hj]
  obtain ⟨e, _⟩ := h.mir h0
  subst e
  rw [mirL_get _ _ _ h.blk.z1]
theorem chunk_map {G : List ByteArray} {u z d : Nat} (hG : G.length = u * z) (hd : d < u) : chunk G z d = (List.range z).map fun i => G.getD (d * z + i) ⟨#[]⟩ := by
  have hl := chunk_len hG hd
  have hb : d * z + z ≤ u * z := by rw [← Nat.succ_mul]; exact Nat.mul_le_mul_right _ hd
  apply List.ext_getElem
  · rw [hl]; simp
  · intro i h1 h2
    have h3 : i < z := by rw [← hl]; exact h1
    have hi : d * z + i < G.length := by rw [hG]; omega
    have e : (chunk G z d)[i]? = some G[d * z + i] := by
      unfold chunk
      rw [List.getElem?_take, if_pos h3, List.getElem?_drop, List.getElem?_eq_getElem hi]
    rw [List.getElem?_eq_getElem h1] at e
    rw [Option.some.inj e, List.getElem_map, List.getElem_range, List.getD_eq_getElem?_getD, List.getElem?_eq_getElem hi]
    rfl
/-- A device of a Mirror that has all of the block. -/
theorem Enc7.tryM (h : Enc7 l sc k t z s kk u L f) (h0 : kk = 0) {G : List ByteArray} (hG : G.length = L.length) {d : Nat} (hd : d < u) (hw : ∀ i, i < z → G.getD (d * z + i) ⟨#[]⟩ = encAt L f (d * z + i)) : tryOf (devAt L (d * z)) (chunk G z d) = some (aheadL l k + (d : Int), s) := by
  obtain ⟨_, hl, _⟩ := h.mir h0
  have hb : d * z + z ≤ u * z := by rw [← Nat.succ_mul]; exact Nat.mul_le_mul_right _ hd
  have hz := h.blk.z1
  have e : chunk G z d = (List.range z).map f := by
    rw [chunk_map (by rw [hG, hl]) hd]
    apply List.map_congr_left
    intro i hi
    have hi := List.mem_range.1 hi
    rw [hw i hi, h.encM h0 (by rw [hl]; omega), h.mod d i hi, h.sec i hi]
  unfold tryOf
  rw [e, h.full f fun _ _ => rfl, h.joined, h.devM h0 (by rw [hl]; omega), Nat.mul_div_cancel _ hz]
  rfl
end
end Go.Proofs.Ytpalgadokdcgnaa

/- few of the laws; code.Bad. -/
namespace Go.Proofs.Ytpalgadokdcgnaa
set_option maxRecDepth 100000
open Go.RowKit M

/-- No text of the first k is over 1,000 bytes. -/
def shortTo (l : List ByteArray) (k : Nat) : Prop := ∀ j (h : j < l.length), j < k → l[j].size ≤ 1000

/-- What few answers. -/
def FewV (G : List ByteArray) (v : Value) : Prop := ∃ b, v = .bool b ∧ (b = true → G.length < 100 ∧ ∀ s ∈ G, s.size ≤ 1000)

set_option maxHeartbeats 1000000 in
theorem cfew_any (l : List (Int × Int)) (sc : Int) (v : Value) (w : World) (h : Meas w v l sc) (G : List ByteArray) (vG : Value) (hG : Txt w vG G) (hm : G.length ≤ maxLen) (hz : ∀ s ∈ G, s.size ≤ maxLen) :
    Calls Try.prog 9 #[v, vG] w fun e w' => ∃ v', e = .returned v' ∧ FewV G v' ∧ Below w.heap.size w w' := by
  unfold maxLen at hm hz
  obtain ⟨a, n, c, rfl, hg⟩ := id h
  have K1 := Lib.hid (Held.start h)
  obtain ⟨aG, cG, rfl, hcc, hj⟩ := hG
  have HJ := Lib.hid hj
  have HZ := Lib.hid hz
  have hn9 := K1.out.len.2
  generalize hn : G.length = nG at hm hcc
  have HN := Lib.hid hn
  clear h hg hj hz hn
  go_enter Try.func9, Try.ntmps9
  go_wp2_with fail
  go_loop [5] (fun i => ∃ k : Nat, k ≤ nG ∧ k ≤ 100 ∧ i = .int .i64 k ∧ Hid (shortTo G k)) (fun i => nG - (intOf i).toNat)
  case atStart => exact ⟨0, Nat.zero_le _, by omega, rfl, Lib.hid fun j _ hj => absurd hj (Nat.not_lt_zero _)⟩
  case round =>
    obtain ⟨k, hk, hk100, rfl, H⟩ := hrel
    by_cases hlt : k < nG
    · by_cases h100 : k < 100
      · have hlt' : k < G.length := by rw [HN.out]; exact hlt
        obtain ⟨g, o, rfl, hg, hck⟩ := HJ.out k hlt'
        have hck' := (boxed w (.cells #[.slice a n c, .int .i64 sc] 24)).cell (p := ⟨g, o + k, none⟩) hg
        rw [hck] at hck'
        have hsk : G[k].size ≤ 9223372036854775807 := HZ.out _ (List.getElem_mem hlt')
        generalize hs : G[k] = s at hck' hsk
        have HS : Hid (∃ h : k < G.length, G[k] = s) := Lib.hid ⟨hlt', hs⟩
        clear hs hlt' hck
        by_cases h10 : s.size ≤ 1000
        · go_wp2
          go_round
          case rel =>
            refine ⟨k + 1, by omega, by omega, by go_num, Lib.hid fun j hj hjk => ?_⟩
            by_cases e : j = k
            · subst e
              obtain ⟨_, hs⟩ := HS.out
              rw [hs]; exact h10
            · exact H.out j hj (by omega)
          case measure => simp [intOf]; omega
        · go_wp2
          go_ret
          exact ⟨_, rfl, ⟨_, rfl, fun h => (by cases h)⟩, K1.out.below⟩
      · have e0 := K1.out.c0
        go_wp2
        go_ret
        exact ⟨_, rfl, ⟨_, rfl, fun h => (by cases h)⟩, K1.out.below⟩
    · obtain rfl : k = nG := by omega
      have e0 := K1.out.c0
      by_cases h100 : k < 100
      · go_wp2
        go_ret
        refine ⟨_, rfl, ⟨_, rfl, fun _ => ⟨by rw [HN.out]; exact h100, fun s hs => ?_⟩⟩, K1.out.below⟩
        obtain ⟨j, hj, rfl⟩ := List.getElem_of_mem hs
        exact H.out j hj (by rw [← HN.out]; exact hj)
      · go_wp2
        go_ret
        exact ⟨_, rfl, ⟨_, rfl, fun h => (by cases h)⟩, K1.out.below⟩

/-- Are two texts unlike? -/
def neB (s t : ByteArray) : Bool := !(s.toList == t.toList)
theorem eq_of_toList {s t : ByteArray} (h : s.toList = t.toList) : s = t := by
  rw [ByteArray.toList_eq, ByteArray.toList_eq] at h
  exact extL h
theorem neB_false {s t : ByteArray} : neB s t = false ↔ s = t := by
  unfold neB
  rw [Bool.not_eq_false', beq_iff_eq]
  exact ⟨eq_of_toList, fun h => by rw [h]⟩
theorem neB_true {s t : ByteArray} : neB s t = true ↔ s ≠ t := by
  rw [ne_eq, ← neB_false]; cases neB s t <;> simp
/-- The columns among the first k that aren't as they are to be. -/
def badL (E G : List ByteArray) (k : Nat) : List Int := (idx (fun j => neB (G.getD j ⟨#[]⟩) (E.getD j ⟨#[]⟩)) k).map fun (j : Nat) => (j : Int)
theorem badL_yes {E G : List ByteArray} {k : Nat} (h : neB (G.getD k ⟨#[]⟩) (E.getD k ⟨#[]⟩) = true) : badL E G (k + 1) = badL E G k ++ [(k : Int)] := by
  unfold badL; rw [idx_yes h, List.map_append]; rfl
theorem badL_no {E G : List ByteArray} {k : Nat} (h : neB (G.getD k ⟨#[]⟩) (E.getD k ⟨#[]⟩) = false) : badL E G (k + 1) = badL E G k := by
  unfold badL; rw [idx_no h]
theorem badL_len (E G : List ByteArray) (k : Nat) : (badL E G k).length ≤ k := by unfold badL; rw [List.length_map]; exact idx_le _ _
def badOf (l : List (Int × Int)) (sc k t : Int) (s : ByteArray) (G : List ByteArray) : List Int :=
  if mayT l sc k t s.size && fitsL l sc k t ((s.size / 64 : Nat) : Int) G then badL (encOf l k.toNat t.toNat (s.size / 64) s) G (encOf l k.toNat t.toNat (s.size / 64) s).length else []
theorem getD_some {G : List ByteArray} {j : Nat} {y : ByteArray} (h : ∃ h : j < G.length, G[j] = y) : G.getD j ⟨#[]⟩ = y := by
  obtain ⟨h, rfl⟩ := h
  rw [List.getD_eq_getElem?_getD, List.getElem?_eq_getElem h]; rfl

set_option maxHeartbeats 2000000 in
theorem bad_any (l : List (Int × Int)) (sc : Int) (v : Value) (w : World) (h : Meas w v l sc) (k t : Int) (hk : I64 k) (ht : I64 t) (s : ByteArray) (hs : s.size ≤ 1000) (G : List ByteArray) (vG : Value) (hG : Txt w vG G) (hm : G.length ≤ 100000) :
    Calls Try.prog 14 #[v, .agg #[.int .i64 k, .int .i64 t], .string s, vG] w fun e w' => ∃ v', e = .returned v' ∧ OwnI w.heap.size w' v' (badOf l sc k t s G) ∧ Below w.heap.size w w' := by
  have K1 := h
  obtain ⟨a, n, c, rfl, hg⟩ := id h
  replace K1 := Lib.hid (HeldP.start k t K1)
  have HC := Lib.hid (encode_any l sc _ _ K1.out.h.m k t hk ht s hs)
  have HG := Lib.hid hG
  obtain ⟨aG, cG, eG, hcG, hjG⟩ := hG
  obtain ⟨N, hN⟩ : ∃ N, s.size = N := ⟨_, rfl⟩
  have HFI : Hid (∀ w1, HeldP w w1 w.heap.size (w.heap.size + 1) a n c sc l k t → Calls Try.prog 15 #[.agg #[.slice a n c, .int .i64 sc], .agg #[.int .i64 k, .int .i64 t], .int .i64 ((N / 64 : Nat) : Int), vG] w1 fun e w' => e = .returned (.bool (fitsL l sc k t ((N / 64 : Nat) : Int) G)) ∧ Below w1.heap.size w1 w') :=
    Lib.hid fun w1 hh => fits_any l sc _ w1 hh.h.m k t _ hk ht ⟨by omega, by omega⟩ G vG (HG.out.below hh.h.below) hm
  have q4 : Int.tdiv (N : Int) 64 = ((N / 64 : Nat) : Int) := by rw [Int.tdiv_eq_ediv_of_nonneg (by omega)]; omega
  rw [hN] at hs
  have hq : (N / 64 : Nat) ≤ 1000 := by omega
  generalize hz : N / 64 = z at HFI q4 hq
  generalize hn : G.length = nG at eG hm hcG
  subst eG
  have HN := Lib.hid hn
  have HJG := Lib.hid hjG
  have HBO : Hid (badOf l sc k t s G = if mayT l sc k t s.size && fitsL l sc k t (z : Int) G then badL (encOf l k.toNat t.toNat z s) G (encOf l k.toNat t.toNat z s).length else []) := Lib.hid (by unfold badOf; rw [hN, hz])
  have HZ : Hid (s.size / 64 = z) := Lib.hid (by rw [hN]; exact hz)
  clear h hg hk ht hn hjG hz
  go_enter Try.func14, Try.ntmps14
  go_wp2_with fail
  refine HC.out.mono ?_
  rintro e w1 ⟨v1, er, rfl, he, b1⟩
  have K2 := Lib.hid (K1.out.next b1)
  have hBs := K1.out.h.below.size
  clear HC b1
  rcases he with ⟨hno, rfl, rfl⟩ | ⟨k', t', z', rfl, rfl, hsz, hB, rfl, hO⟩
  · have HE : Hid (badOf l sc k t s G = []) := Lib.hid (by rw [HBO.out, hno]; rfl)
    clear hno
    go_wp2
    go_ret
    exact ⟨_, rfl, by rw [HE.out]; exact OwnI.nil _ _, K2.out.h.below⟩
  · obtain rfl : z' = z := by have := HZ.out; omega
    have hmT : mayT l sc k' t' s.size = true := mayT_iff.2 ⟨k', t', z', rfl, rfl, hsz, hB⟩
    have HLN : Hid (fitsL l sc k' t' z' G = true → (encOf l k' t' z' s).length = G.length) := Lib.hid (fun h => by
      unfold fitsL at h
      simp only [Bool.and_eq_true, decide_eq_true_iff] at h
      rw [encOf_len]
      exact h.1.2)
    have HP : Hid (0 < (encOf l k' t' z' s).length) := Lib.hid (by rw [encOf_len]; exact hB.laid.pos)
    have HP2 : Hid ((encOf l k' t' z' s).length ≤ 32) := Lib.hid (by rw [encOf_len]; exact hB.laid.few)
    obtain ⟨g1, c1, rfl, hc1, hg1B, hg1, hj1⟩ : ∃ g c, v1 = .slice (some ⟨g, 0, none⟩) (encOf l k' t' z' s).length c ∧ (encOf l k' t' z' s).length ≤ c ∧ w.heap.size ≤ g ∧ g < w1.heap.size ∧ ∀ j (h : j < (encOf l k' t' z' s).length), w1.cell? ⟨g, j, none⟩ = some (.string (encOf l k' t' z' s)[j]) := by
      obtain ⟨g, o, c, e, hc, hg, hj⟩ := hO.txt.isSome HP.out
      rcases hO.2 with ⟨_, h0⟩ | ⟨g', cap, cur, e', hB', _⟩
      · have := HP.out; omega
      · rw [e'] at e
        cases e
        exact ⟨_, _, e', hc, by omega, hg, fun j h => by have := hj j h; rwa [Nat.zero_add] at this⟩
    have HBO2 : Hid (badOf l sc k' t' s G = if fitsL l sc k' t' (z' : Int) G then badL (encOf l k' t' z' s) G (encOf l k' t' z' s).length else []) := Lib.hid (by rw [HBO.out, hmT, Bool.true_and]; rfl)
    clear hmT hO hB HBO
    generalize encOf l k' t' z' s = E at HLN HP HP2 hc1 hj1 HBO2
    generalize hm1 : E.length = m1 at HP2 hc1
    have HE1 := Lib.hid hm1
    have HJ1 := Lib.hid hj1
    have hm0 : 0 < m1 := by rw [← hm1]; exact HP.out
    have hm32 := HP2.out
    clear hm1 hj1 HP HP2
    have HCF := Lib.hid (HFI.out _ K2.out)
    have k0 := K2.out.h.c0
    have k1 := K2.out.h.c1
    have p0 := K2.out.p0
    have p1 := K2.out.p1
    cases hf : fitsL l sc k' t' (z' : Int) G with
    | false =>
      rw [hf] at HCF HBO2
      go_wp2_with fail
      refine HCF.out.mono ?_
      rintro e w2 ⟨rfl, b2⟩
      go_wp2
      go_ret
      exact ⟨_, rfl, by rw [HBO2.out]; exact OwnI.nil _ _, next K2.out.h.below b2⟩
    | true =>
      rw [hf] at HCF HBO2
      have HBO3 : Hid (badOf l sc k' t' s G = badL E G m1) := Lib.hid (by rw [HBO2.out, HE1.out]; rfl)
      clear HBO2
      have hln : m1 = nG := by rw [← HE1.out, ← HN.out]; exact HLN.out hf
      subst hln
      clear hf
      go_wp2_with fail
      refine HCF.out.mono ?_
      rintro e w2 ⟨rfl, b2⟩
      have HW2 := Lib.hid (next K2.out.h.below b2)
      have HJ2 : Hid (∀ j (h : j < E.length), w2.cell? ⟨g1, j, none⟩ = some (.string E[j])) := Lib.hid fun j h => by rw [b2.cell (p := ⟨g1, j, none⟩) hg1]; exact HJ1.out j h
      have hg2 : g1 < w2.heap.size := Nat.lt_of_lt_of_le hg1 b2.size
      clear b2 K2 K1 HJ1 hg1 k0 k1 p0 p1
      go_wp2_with fail
      go_loopw [11, 34] (fun t11 i34 wr => ∃ (j m : Nat) (b : Option Addr) (cc : Nat), j ≤ m1 ∧ m ≤ j ∧ i34 = .int .i64 (j : Int) ∧ t11 = .slice b m cc ∧ Hid (OwnI w2.heap.size wr (.slice b m cc) (badL E G j)) ∧ Hid ((badL E G j).length = m) ∧ Hid (Below w2.heap.size w2 wr)) (fun _ i _ => m1 - (intOf i).toNat)
      case atStart => exact ⟨0, 0, none, 0, Nat.zero_le _, Nat.le_refl _, rfl, rfl, Lib.hid (OwnI.nil _ _), Lib.hid rfl, Lib.hid (Below.refl _ _)⟩
      case round =>
        obtain ⟨j, m, b, cc, hj, hmj, rfl, rfl, HO, HM, HW⟩ := hrel
        have hsr := HW.out.size
        by_cases hjn : j < m1
        · have hjE : j < E.length := by rw [HE1.out]; exact hjn
          have hjG : j < G.length := by rw [HN.out]; exact hjn
          obtain ⟨x, hx⟩ : ∃ x, E[j] = x := ⟨_, rfl⟩
          obtain ⟨y, hy⟩ : ∃ y, G[j] = y := ⟨_, rfl⟩
          have ex := (HW.out.cell (p := ⟨g1, j, none⟩) hg2).trans (HJ2.out j hjE)
          obtain ⟨gy, oy, rfl, hgy, hyc⟩ := HJG.out j hjG
          have ey := (HW.out.cell (p := ⟨gy, oy + j, none⟩) (Nat.lt_of_lt_of_le hgy HW2.out.size)).trans ((HW2.out.cell (p := ⟨gy, oy + j, none⟩) hgy).trans hyc)
          rw [hx] at ex
          rw [hy] at ey
          have HXY : Hid (neB (G.getD j ⟨#[]⟩) (E.getD j ⟨#[]⟩) = neB y x) := Lib.hid (by rw [getD_some ⟨hjG, hy⟩, getD_some ⟨hjE, hx⟩])
          clear hx hy hyc hjE hjG
          cases hne : neB y x with
          | false =>
            have hq1 : (y.toList == x.toList) = true := by unfold neB at hne; simpa using hne
            have hq2 : (y.toList != x.toList) = false := by unfold bne; rw [hq1]; rfl
            have HNX : Hid (badL E G (j + 1) = badL E G j) := Lib.hid (badL_no (by rw [HXY.out]; exact hne))
            clear hne HXY
            go_wp2_with fail
            go_quiet (fail)
            go_wp2
            go_roundw
            case rel => exact ⟨j + 1, m, b, cc, by omega, by omega, by go_num, rfl, Lib.hid (by rw [HNX.out]; exact HO.out.below (below_drewN (Below.refl _ _) _)), Lib.hid (by rw [HNX.out]; exact HM.out), Lib.hid (below_drewN HW.out _)⟩
            case measure => simp [intOf]; omega
          | true =>
            have hq1 : (y.toList == x.toList) = false := by unfold neB at hne; simpa using hne
            have hq2 : (y.toList != x.toList) = true := by unfold bne; rw [hq1]; rfl
            have HNX : Hid (badL E G (j + 1) = badL E G j ++ [(j : Int)]) := Lib.hid (badL_yes (by rw [HXY.out]; exact hne))
            have HM1 : Hid ((badL E G j ++ [(j : Int)]).length = m + 1) := Lib.hid (by rw [List.length_append, HM.out]; rfl)
            have HLE : Hid ((badL E G j).length ≤ 100000) := Lib.hid (by rw [HM.out]; omega)
            clear hne HXY
            go_wp2_with fail
            go_quiet (fail)
            go_wp2_with (at_builtin; refine wpList_append_int _ rfl _ _ rfl w2.heap.size _ _ (j : Int) _ _ rfl rfl ((HO.out.below (below_drewN (Below.refl _ _) _)).below (boxed _ _)) (box_now _ _ _ (by first | rfl | simp)) (by simp; omega) HLE.out ?_; intro v3 w3 hown3 hb3 hs3; obtain ⟨a3, n3, c3, e3, hn3, -⟩ := hown3.v; rw [HM1.out] at hn3; subst hn3; subst e3)
            go_roundw
            case rel => exact ⟨j + 1, m + 1, a3, c3, by omega, by omega, by go_num, rfl, Lib.hid (by rw [HNX.out]; exact hown3), Lib.hid (by rw [HNX.out]; exact HM1.out), Lib.hid ((grows_alloc (below_drewN HW.out _) _).trans hb3)⟩
            case measure => simp [intOf]; omega
        · obtain rfl : j = m1 := by omega
          go_wp2
          go_ret
          refine ⟨_, rfl, ?_, HW2.out.trans (HW.out.mono HW2.out.size)⟩
          rw [HBO3.out]
          exact HO.out.lower HW2.out.size
end Go.Proofs.Ytpalgadokdcgnaa
