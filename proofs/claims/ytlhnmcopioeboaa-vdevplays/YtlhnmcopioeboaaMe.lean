/-
  code.ofParity: the function that it answers hands out the tries of a Parity's columns.
  The devices of a block's columns: how many there are.
  code.Tries: a function that hands out what columns may come to.
  code.Tries of any columns.
  Columns as they are encoded: what they come to (no program is named here).
  vdev.Write of any block; vdev.Mend.
  vdev.Raw: what a block's columns read as.
  settle.
  Flush.
  Flush: the walk.
  vdev.Flush.
  What devices read as behind writing, flushing and a crash (no program is named here).
  Contracts of the kit's shelf, laid at this seat's dump (plain mode of the kit's own script).
  Cached.
-/
import Derived.Test.YtlhnmcopioeboaaMd
import Derived.StillTailTactics
import Derived.Shelf.Sort.Plain
import Derived.Shelf.Slices.In.SortNone
import Derived.Test.YtlhnmcopioeboaaProg
import Derived.Sort.OwnSorted
import Derived.Sort.OwnSortedInts

/- code.ofParity: the function that it answers hands out the tries of a Parity's columns. -/
namespace Go.Proofs.Ytlhnmcopioeboaa
set_option maxRecDepth 100000
open Go.RowKit Go.Shelf M
attribute [local go_sem] Oper.semAt_some

/-- What a Parity's function holds. -/
structure ParS (w : World) (B b1 b2 b3 : Nat) (vD vL vG : Value) (D : List Int) (L : List C) (G : List ByteArray) : Prop where
  c1 : w.cell? ⟨b1, 0, none⟩ = some vD
  c2 : w.cell? ⟨b2, 0, none⟩ = some vL
  c3 : w.cell? ⟨b3, 0, none⟩ = some vG
  l1 : B ≤ b1 ∧ b1 < w.heap.size
  l2 : B ≤ b2 ∧ b2 < w.heap.size
  l3 : B ≤ b3 ∧ b3 < w.heap.size
  devs : OwnI B w vD D
  cols : OwnC B w vL L
  txts : Own w B vG G
theorem ParS.since {w w' : World} {B b1 b2 b3 : Nat} {vD vL vG : Value} {D : List Int} {L : List C} {G : List ByteArray} (h : ParS w B b1 b2 b3 vD vL vG D L G) (hs : Since B w w') : ParS w' B b1 b2 b3 vD vL vG D L G :=
  ⟨by rw [hs.cell (p := ⟨b1, 0, none⟩) h.l1.1 h.l1.2]; exact h.c1, by rw [hs.cell (p := ⟨b2, 0, none⟩) h.l2.1 h.l2.2]; exact h.c2, by rw [hs.cell (p := ⟨b3, 0, none⟩) h.l3.1 h.l3.2]; exact h.c3,
    ⟨h.l1.1, Nat.lt_of_lt_of_le h.l1.2 hs.size⟩, ⟨h.l2.1, Nat.lt_of_lt_of_le h.l2.2 hs.size⟩, ⟨h.l3.1, Nat.lt_of_lt_of_le h.l3.2 hs.size⟩, h.devs.since hs, h.cols.since hs, h.txts.since hs⟩
theorem OwnI.at_ {w : World} {B : Nat} {v : Value} {zs : List Int} (h : OwnI B w v zs) (h0 : 0 < zs.length) : ∃ g c, v = .slice (some ⟨g, 0, none⟩) zs.length c ∧ zs.length ≤ c ∧ B ≤ g ∧ g < w.heap.size ∧ ∀ j (h : j < zs.length), w.cell? ⟨g, j, none⟩ = some (.int .i64 zs[j]) := by
  have hv := h.v
  rcases h.2 with ⟨_, hn⟩ | ⟨g, cap, cur, rfl, hB, hb, hnc, _⟩
  · omega
  · refine ⟨g, cap, rfl, hnc, hB, (Array.getElem?_eq_some_iff.1 hb).1, fun j hj => ?_⟩
    obtain ⟨a, n, c, e, _, _, hc⟩ := hv
    cases e
    obtain ⟨g', e', _, hx⟩ := hc j hj
    cases e'
    exact hx
theorem mkB_small {l : List ByteArray} {N : Nat} (h : ∀ s ∈ l, s.size ≤ N) : (mkB l).size ≤ N := by
  unfold mkB
  split
  · rw [parB_size]
    unfold wide
    cases l with
    | nil => exact Nat.zero_le _
    | cons s r => exact h s List.mem_cons_self
  · exact Nat.zero_le _
theorem wth_small {L : List C} {G : List ByteArray} {d : Int} {k N : Nat} (hG : ∀ s ∈ G, s.size ≤ N) : ∀ s ∈ wth L G d k, s.size ≤ N := by
  intro s hs
  obtain ⟨j, _, rfl⟩ := List.mem_map.1 hs
  show (if devAt L j = d then agn L G j else G.getD j ⟨#[]⟩).size ≤ N
  split
  · unfold agn
    exact mkB_small fun s hs => rowG_mem hG s (List.mem_of_mem_eraseIdx hs)
  · rw [List.getD_eq_getElem?_getD]
    cases h : G[j]? with
    | none => exact Nat.zero_le _
    | some t => exact hG t (List.mem_of_getElem? h)

end Go.Proofs.Ytlhnmcopioeboaa

/- The devices of a block's columns: how many there are. -/
namespace Go.Proofs.Ytlhnmcopioeboaa
set_option maxRecDepth 100000
open Go.RowKit

structure Devd (f kk : Int) (u z : Nat) (L : List C) (D : List Int) : Prop where
  in_ : ∀ j (h : j < D.length), f ≤ D[j] ∧ D[j] < f + u
  up : ∀ j (h : j + 1 < D.length), D[j] < D[j + 1]
  pos : 0 < D.length
  few : D.length ≤ 32
  mir : kk = 0 → D.length = u ∧ L.length = z * u
  par : kk = 1 → D.length = (if L.length < u then L.length else u) ∧ z < L.length ∧ (L.length : Int) ≤ takesG (kk, (u : Int)) z
theorem devd (f kk : Int) (u : Nat) (s : Int) (t z : Nat) (hok : okG (kk, (u : Int)) = true) (z1 : 1 ≤ z) (z4 : z ≤ 4) (fit : (t : Int) + takesG (kk, (u : Int)) z ≤ gives (kk, (u : Int)) s) :
    Devd f kk u z (colsG f (kk, (u : Int)) t z) (devsS ((colsG f (kk, (u : Int)) t z).map C.dev)) := by
  have hL := laid f kk u s t z hok z1 z4 fit
  obtain ⟨h1, h2⟩ := devsS_spec ((colsG f (kk, (u : Int)) t z).map C.dev)
  have hu8 := okG_wide hok
  dsimp only at hu8
  refine ⟨fun j h => ?_, fun j h => List.pairwise_iff_getElem.1 h1 j (j + 1) (by omega) h (by omega), devsS_pos (by rw [List.length_map]; exact hL.pos), Nat.le_trans (devsS_le _) (by rw [List.length_map]; exact hL.few), fun e => ?_, fun e => ?_⟩
  · obtain ⟨c, hc, e⟩ := List.mem_map.1 ((h2 _).1 (List.getElem_mem h))
    obtain ⟨i, hi, rfl⟩ := List.getElem_of_mem hc
    rw [← e]
    exact ⟨hL.dev0 i hi, hL.dev1 i hi⟩
  · subst e
    have e : colsG f (0, (u : Int)) t z = mirL f t u z := by unfold colsG; rw [if_pos rfl]; simp
    rw [e]
    have hzp : 0 < z := by omega
    refine ⟨devsS_run (f := f) fun x => ?_, by rw [mirL_len, Nat.mul_comm]⟩
    rw [List.mem_map]
    constructor
    · rintro ⟨c, hc, rfl⟩
      obtain ⟨i, hi, rfl⟩ := List.getElem_of_mem hc
      have a := hL.dev0
      have b := hL.dev1
      rw [e] at a b
      exact ⟨a i hi, b i hi⟩
    · rintro ⟨ha, hb⟩
      obtain ⟨d, hd⟩ := Int.eq_ofNat_of_zero_le (show 0 ≤ x - f by omega)
      have hdu : d < u := by omega
      have hj : d * z < (mirL f t u z).length := by
        rw [mirL_len]
        have : (d + 1) * z ≤ u * z := Nat.mul_le_mul_right z hdu
        rw [Nat.add_mul, Nat.one_mul] at this
        omega
      refine ⟨_, List.getElem_mem hj, ?_⟩
      rw [mirL_get f t z hzp u _ hj]
      show f + ((d * z / z : Nat) : Int) = x
      rw [Nat.mul_div_cancel _ hzp]
      omega
  · subst e
    have e : colsG f (1, (u : Int)) t z = parTo f t u z := by unfold colsG; rw [if_neg Int.one_ne_zero]; simp
    have hu3 : 3 ≤ u := by
      rcases okG_cases hok with ⟨h, _⟩ | ⟨_, h, _⟩
      · omega
      · omega
    rw [e]
    obtain ⟨p1, p2, p3⟩ := par_fits u (by omega) hu3 z (by omega) z1
    rw [← parTo_len0 f t u z] at p1 p2 p3
    refine ⟨?_, by omega, p2⟩
    by_cases hn : (parTo f t u z).length < u
    · rw [if_pos hn, devsS_nodup, List.length_map]
      rw [List.nodup_iff_pairwise_ne, List.pairwise_iff_getElem]
      intro i j hi hj hij
      rw [List.length_map] at hi hj
      rw [List.getElem_map, List.getElem_map]
      obtain ⟨r1, b1, e1⟩ := parTo_get f t u z i hi
      obtain ⟨r2, b2, e2⟩ := parTo_get f t u z j hj
      rw [e1, e2]
      intro ed
      have ed' : f + (((t + i) % u : Nat) : Int) = f + (((t + j) % u : Nat) : Int) := ed
      have e3 : (t + i) % u = (t + j) % u := by omega
      have h2 := Nat.div_add_mod (t + i) u
      have h3 := Nat.div_add_mod (t + j) u
      rw [e3] at h2
      have h4 : u * ((t + j) / u) = u * ((t + i) / u) + (j - i) := by omega
      rcases Nat.lt_or_ge ((t + i) / u) ((t + j) / u) with h5 | h5
      · have h6 : u * ((t + i) / u + 1) ≤ u * ((t + j) / u) := Nat.mul_le_mul_left u h5
        rw [Nat.mul_add, Nat.mul_one] at h6
        omega
      · have h6 : u * ((t + j) / u) ≤ u * ((t + i) / u) := Nat.mul_le_mul_left u h5
        omega
    · rw [if_neg hn]
      refine devsS_run (f := f) fun x => ?_
      rw [List.mem_map]
      constructor
      · rintro ⟨c, hc, rfl⟩
        obtain ⟨i, hi, rfl⟩ := List.getElem_of_mem hc
        have a := hL.dev0
        have b := hL.dev1
        rw [e] at a b
        exact ⟨a i hi, b i hi⟩
      · rintro ⟨ha, hb⟩
        obtain ⟨d, hd⟩ := Int.eq_ofNat_of_zero_le (show 0 ≤ x - f by omega)
        have hdu : d < u := by omega
        have hmt := Nat.mod_lt t (show 0 < u by omega)
        have hjm := Nat.mod_lt (d + (u - t % u)) (show 0 < u by omega)
        have hj : (d + (u - t % u)) % u < (parTo f t u z).length := by omega
        refine ⟨_, List.getElem_mem hj, ?_⟩
        obtain ⟨r1, b1, e1⟩ := parTo_get f t u z _ hj
        rw [e1]
        show f + (((t + (d + (u - t % u)) % u) % u : Nat) : Int) = x
        have e4 : (t + (d + (u - t % u)) % u) % u = d := by
          rw [Nat.add_mod, Nat.mod_mod, ← Nat.add_mod]
          have h2 := Nat.div_add_mod t u
          have e5 : t + (d + (u - t % u)) = d + u * (t / u + 1) := by rw [Nat.mul_add, Nat.mul_one]; omega
          rw [e5, Nat.add_mul_mod_self_left, Nat.mod_eq_of_lt hdu]
        rw [e4]
        omega
theorem Blk.devd {l : List (Int × Int)} {s : Int} {k t z : Nat} (h : Blk l s k t z) {kk : Int} {u : Nat} (hl : l[k]'h.hk = (kk, (u : Int))) : Devd (aheadL l k) kk u z (colsOf l k t z) (devsS ((colsOf l k t z).map C.dev)) := by
  have hk := h.hk
  have hok := h.right.all k hk
  have hf := h.fit
  unfold colsOf
  rw [getD_at hk, hl]
  rw [hl] at hok hf
  exact Proofs.Ytlhnmcopioeboaa.devd _ _ _ s _ _ hok h.z1 h.z4 hf
end Go.Proofs.Ytlhnmcopioeboaa

/- code.Tries: a function that hands out what columns may come to. -/
namespace Go.Proofs.Ytlhnmcopioeboaa
set_option maxRecDepth 100000
open Go.RowKit Go.Shelf M

theorem HandsS.since {α : Type} {F : Fence} {n : Nat} {P : Program} {g : Nat} {lb : Array Value} {enc : α → Array Value} {xs : List α} {B B' : Nat} {w w' : World} (h : HandsS F n P g lb enc xs B w) (hB : B' ≤ B) (hs : Since B' w w') : HandsS F n P g lb enc xs B' w' :=
  fun l J Jx W hW hJ hJx hJS hY h0 => h l J Jx W ((hs.trans hW).mono hB) hJ hJx (fun k X hX => (hs.trans (hJS k X hX)).mono hB) hY h0
/-- The value v is a function that hands out xs. -/
def SeqT (B : Nat) (w : World) (v : Value) (xs : List (Int × ByteArray)) : Prop :=
  ∃ gf lb, v = .func (.func gf) #[] lb ∧ (∀ args w, (callFunc gf args).run Try.prog w = .ok (.enter gf args) w) ∧ ∀ n, 1 ≤ n → HandsS Fence.wide n Try.prog gf lb encT xs B w
theorem SeqT.since {B B' : Nat} {w w' : World} {v : Value} {xs : List (Int × ByteArray)} (h : SeqT B w v xs) (hB : B' ≤ B) (hs : Since B' w w') : SeqT B' w' v xs := by
  obtain ⟨gf, lb, e, h1, h2⟩ := h
  exact ⟨gf, lb, e, h1, fun n hn => (h2 n hn).since hB hs⟩

theorem box_kept {w w' : World} {v : Value} {t : TypeId} {b : Nat} (hb : b = w.heap.size) (h : Below (w.alloc (.cells #[v] t)).heap.size (w.alloc (.cells #[v] t)) w') : w'.cell? ⟨b, 0, none⟩ = some v := by
  subst hb
  rw [h.cell (p := ⟨w.heap.size, 0, none⟩) (by simp), World.cell?_alloc_new]
  rfl
theorem box_now (w : World) (v : Value) (t : TypeId) {b : Nat} (hb : b = w.heap.size) : (w.alloc (.cells #[v] t)).cell? ⟨b, 0, none⟩ = some v := box_kept hb (Below.refl _ _)
/-- append(v, zs...), numbers. -/
theorem wpList_append_ints {ops : Array Oper} {rest : List Oper} {o : Oper} {a : Act} {Q : Exit → Act → World → Prop} (w : World) (hgd : o.guard = none) (s x : Operand)
    (ho : o.op = .call { callee := .builtin .append, args := #[s, x], argTypes := #[27, 27] }) (B : Nat) (v : Value) (l m : List Int) (g n c' : Nat) (hs : a.eval s = v) (hx : a.eval x = .slice (some ⟨g, 0, none⟩) n c')
    (hv : OwnI B w v l) (hm : m.length = n) (hc : ∀ j (h : j < m.length), w.cell? ⟨g, j, none⟩ = some (.int .i64 m[j])) (hB : B ≤ w.heap.size) (hN : l.length + n ≤ 100000)
    (h : ∀ v' w', OwnI B w' v' (l ++ m) → Below B w w' → w.heap.size ≤ w'.heap.size → wpList Try.prog ops Q rest (a.put o.dst v') w') : wpList Try.prog ops Q (o :: rest) a w := by
  obtain ⟨i, hi, hz, hsz, hb⟩ := infoI
  subst hm
  refine wpList_append_own_at w hgd s x _ ho B 3 i _ 1 8 Try.underlying27 hi hz hsz hb rfl (by decide) v l.length (l.map (Value.int .i64)) hs hv ⟨g, 0, none⟩ m.length c' (m.map (Value.int .i64)) hx (by simp) (fun j u hj => ?_) (fun u hu => ?_) (by unfold maxLen; omega) (by omega) hB fun v' w' h1 h2 _ _ => ?_
  · have hlt : j < m.length := by simpa using (List.getElem?_eq_some_iff.1 hj).1
    rw [Go.WideShapes.add_plain, Nat.zero_add, hc j hlt, ← hj, List.getElem?_map, List.getElem?_eq_getElem hlt]
    rfl
  · obtain ⟨y, _, rfl⟩ := List.mem_map.1 hu; rfl
  · refine h v' w' ?_ ((Below.refl B w).grown h2 hB fun k hk => (World.ownsRow.lt hv k hk).1) h2.size
    unfold OwnI
    rw [List.length_append, List.map_append]
    exact h1
theorem own_oneI (w : World) (B : Nat) (y : Int) (hB : B ≤ w.heap.size) : OwnI B (w.alloc (.cells #[.int .i64 y] 3)) (.slice (some ⟨w.heap.size, 0, none⟩) 1 1) [y] := by
  have := World.ownsRow_lit (base := B) (e := 3) (size := 1) w #[.int .i64 y] 1 hB (by decide) (by simp)
  simpa [OwnI] using this
end Go.Proofs.Ytlhnmcopioeboaa

/- code.Tries of any columns. -/
namespace Go.Proofs.Ytlhnmcopioeboaa
set_option maxRecDepth 100000
open Go.RowKit Go.Shelf M

/-- Each data column has another one in its row, told by rows and parities alone. -/
def pairedB (M : List (Int × Bool)) : Bool := M.all fun x => x.2 || decide (2 ≤ M.countP fun y => y.1 == x.1)
theorem paired_of {L : List C} (h : pairedB (L.map rp) = true) : Paired L := by
  intro a ha hp
  rw [idx_count (p := fun x : C => x.row == rowAt L a) L (fun j hj => by rw [rowAt_eq hj]) L.length (Nat.le_refl _), List.take_length]
  unfold pairedB at h
  rw [List.all_eq_true] at h
  have h1 := h (rp L[a]) (List.mem_map_of_mem (List.getElem_mem ha))
  rw [parAt_eq ha] at hp
  rw [rowAt_eq ha]
  simp only [rp, hp, Bool.false_or, decide_eq_true_iff, List.countP_map] at h1
  exact h1
theorem par_paired : ∀ u : Nat, u < 9 → 3 ≤ u → ∀ z : Nat, z < 5 → 1 ≤ z → pairedB ((parTo 0 0 u z).map rp) = true := by decide
theorem parTo_paired (f : Int) (t u z : Nat) (h3 : 3 ≤ u) (h8 : u ≤ 8) (z1 : 1 ≤ z) (z4 : z ≤ 4) : Paired (parTo f t u z) := paired_of (by rw [parTo_shape]; exact par_paired u (by omega) h3 z (by omega) z1)

/-- The kind of a block's group, and how wide it is. -/
structure Kinded (l : List (Int × Int)) (k t z : Nat) (kk : Int) (u : Nat) (L : List C) : Prop where
  grp : l.getD k (0, 0) = (kk, (u : Int))
  ok : (kk = 0 ∧ 1 ≤ u ∧ u ≤ 8 ∧ L = mirL (aheadL l k) t u z ∧ L.length = u * z) ∨ (kk = 1 ∧ 3 ≤ u ∧ u ≤ 8 ∧ L = parTo (aheadL l k) t u z ∧ Paired L)
theorem Blk.kinded {l : List (Int × Int)} {s : Int} {k t z : Nat} (h : Blk l s k t z) : ∃ kk u, Kinded l k t z kk u (colsOf l k t z) := by
  have hk := h.hk
  obtain ⟨kk, u, hlk, hok⟩ : ∃ kk u, l[k] = (kk, u) ∧ okG (kk, u) = true := ⟨l[k].1, l[k].2, rfl, h.right.all k hk⟩
  obtain ⟨u0, rfl⟩ := Int.eq_ofNat_of_zero_le (show 0 ≤ u by have := okG_wide hok; omega)
  have hg : l.getD k (0, 0) = (kk, (u0 : Int)) := by rw [getD_at hk, hlk]
  refine ⟨kk, u0, hg, ?_⟩
  unfold colsOf
  rw [hg]
  rcases okG_cases hok with ⟨rfl, h1, h2⟩ | ⟨rfl, h1, h2⟩
  · left
    have e : colsG (aheadL l k) (0, (u0 : Int)) t z = mirL (aheadL l k) t u0 z := by unfold colsG; rw [if_pos rfl]; simp
    rw [e]
    exact ⟨rfl, by omega, by omega, rfl, mirL_len _ _ _ _⟩
  · right
    have e : colsG (aheadL l k) (1, (u0 : Int)) t z = parTo (aheadL l k) t u0 z := by unfold colsG; rw [if_neg Int.one_ne_zero]; simp
    rw [e]
    exact ⟨rfl, by omega, by omega, rfl, parTo_paired _ _ _ _ (by omega) (by omega) h.z1 h.z4⟩
theorem Blk.data {l : List (Int × Int)} {s : Int} {k t z : Nat} (h : Blk l s k t z) : z ≤ (datL (colsOf l k t z)).length := by
  have hk := h.hk
  obtain ⟨kk, u, hlk, hok⟩ : ∃ kk u, l[k] = (kk, u) ∧ okG (kk, u) = true := ⟨l[k].1, l[k].2, rfl, h.right.all k hk⟩
  have hw := okG_wide hok
  obtain ⟨u0, rfl⟩ := Int.eq_ofNat_of_zero_le (show 0 ≤ u by omega)
  obtain ⟨R, hR⟩ := h.rowed hlk
  rw [hR.datas]
  split
  · exact Nat.le_mul_of_pos_right _ (by omega)
  · exact Nat.le_refl _

/-- What columns may come to. -/
def triesB (l : List (Int × Int)) (k t z : Nat) (G : List ByteArray) : List (Int × ByteArray) :=
  if (l.getD k (0, 0)).1 = 0 then triesM (colsOf l k t z) G (l.getD k (0, 0)).2.toNat z else triesP (colsOf l k t z) G (-1 :: devsS ((datL (colsOf l k t z)).map C.dev))
def triesOf (l : List (Int × Int)) (sc k t z : Int) (G : List ByteArray) : List (Int × ByteArray) := if fitsL l sc k t z G then triesB l k.toNat t.toNat z.toNat G else []
theorem fit_small {G : List ByteArray} (h : fitL G = true) : ∀ s ∈ G, s.size ≤ 1000 := by
  intro s hs
  unfold fitL at h
  rw [List.all_eq_true] at h
  have := h s hs
  unfold secT at this
  rw [Bool.or_eq_true, beq_iff_eq, beq_iff_eq] at this
  omega

end Go.Proofs.Ytlhnmcopioeboaa

/- Columns as they are encoded: what they come to (no program is named here). -/
namespace Go.Proofs.Ytlhnmcopioeboaa
set_option maxRecDepth 100000
open Go.RowKit M

/-- What the laws ask of a block's columns. -/
structure Sound (L : List C) : Prop where
  data : ∀ a, a < L.length → parAt L a = true → idx (fun j => !parAt L j && rowAt L j == rowAt L a) L.length ≠ []
def soundB (M : List (Int × Bool)) : Bool := M.all fun x => !x.2 || M.any fun y => !y.2 && y.1 == x.1
theorem sound_of {L : List C} (h : soundB (L.map rp) = true) : Sound L := ⟨fun a ha hp he => by
  unfold soundB at h
  rw [List.all_eq_true] at h
  have h1 := h (rp L[a]) (List.mem_map_of_mem (List.getElem_mem ha))
  rw [parAt_eq ha] at hp
  simp only [rp, hp, Bool.not_true, Bool.false_or, List.any_map, List.any_eq_true] at h1
  obtain ⟨x, hx, hx2⟩ := h1
  obtain ⟨j, hj, rfl⟩ := List.getElem_of_mem hx
  have : j ∈ idx (fun j => !parAt L j && rowAt L j == rowAt L a) L.length := idx_mem.2 ⟨hj, by rw [parAt_eq hj, rowAt_eq hj, rowAt_eq ha]; exact hx2⟩
  rw [he] at this
  cases this⟩
theorem par_sound : ∀ u : Nat, u < 9 → 3 ≤ u → ∀ z : Nat, z < 5 → 1 ≤ z → soundB ((parTo 0 0 u z).map rp) = true := by decide
theorem Blk.sound {l : List (Int × Int)} {s : Int} {k t z : Nat} (h : Blk l s k t z) : Sound (colsOf l k t z) := by
  obtain ⟨kk, u, hK⟩ := h.kinded
  rcases hK.ok with ⟨_, _, _, e, _⟩ | ⟨_, h3, h8, e, _⟩
  · rw [e]
    refine ⟨fun a ha hp => ?_⟩
    rw [parAt_eq ha, mirL_get _ _ _ h.z1] at hp
    cases hp
  · rw [e]
    exact sound_of (by rw [parTo_shape]; exact par_sound u (by omega) h3 z (by have := h.z4; omega) h.z1)

section
variable {L : List C} {f : Nat → ByteArray}
theorem rowD_sz (hf : ∀ i, (f i).size = 64) {r : Int} {k : Nat} : ∀ s ∈ rowD L f r k, s.size = 64 := by
  intro s hs
  obtain ⟨j, _, rfl⟩ := List.mem_map.1 hs
  exact hf _
theorem enc_size (hS : Sound L) (hf : ∀ i, (f i).size = 64) (a : Nat) (ha : a < L.length) : (encAt L f a).size = 64 := by
  unfold encAt
  cases hp : parAt L a with
  | true =>
    have hne : rowD L f (rowAt L a) L.length ≠ [] := by
      unfold rowD
      intro e
      exact hS.data a ha hp (List.map_eq_nil_iff.1 e)
    rw [if_pos rfl, (mk_ok (ok_of (rowD_sz hf) hne)).1, parB_size, wide_of (rowD_sz hf) hne]
  | false => rw [if_neg (by simp)]; exact hf _
theorem encL_size (hS : Sound L) (hf : ∀ i, (f i).size = 64) : ∀ s ∈ encL L f, s.size = 64 := by
  intro s hs
  obtain ⟨a, ha, rfl⟩ := List.mem_map.1 hs
  exact enc_size hS hf a (List.mem_range.1 ha)

/-- The data columns' texts, in their order, are the sectors. -/
theorem data_map (g : Nat → ByteArray) : ∀ k, k ≤ L.length → (idx (fun j => !parAt L j) k).map (fun j => g (dct L j)) = (List.range (dct L k)).map g := by
  intro k
  induction k with
  | zero => intro _; simp [idx, dct]
  | succ k ih =>
    intro hk
    have hd := dct_succ (L := L) (k := k) (by omega)
    rw [← parAt_eq (by omega : k < L.length)] at hd
    cases hp : parAt L k with
    | true =>
      rw [hp] at hd
      rw [idx_no (by simp [hp]), ih (by omega), hd]
      rfl
    | false =>
      rw [hp] at hd
      rw [idx_yes (by simp [hp]), List.map_append, ih (by omega), hd]
      simp [List.range_succ]

/-- How many parities a row has among the first k. -/
def pcN (L : List C) (r : Int) (k : Nat) : Nat := (idx (fun j => parAt L j && rowAt L j == r) k).length
theorem row_col (r : Int) (i : Nat) : ∀ k, k ≤ L.length → colx (rowG L (encL L f) r k) i = colx (rowD L f r k) i ^^^ (if pcN L r k % 2 = 1 then (mkB (rowD L f r L.length)).data.toList.getD i 0 else 0) := by
  intro k
  induction k with
  | zero => intro _; simp [rowG, rowD, idx, pcN, colx]
  | succ k ih =>
    intro hk
    have ih := ih (by omega)
    by_cases hr : rowAt L k = r
    · rw [rowG_yes hr, colx_append, colx_one, ih, encL_getD L f k (by omega)]
      cases hp : parAt L k with
      | true =>
        have hpc : pcN L r (k + 1) = pcN L r k + 1 := by unfold pcN; rw [idx_yes (by simp [hp, hr]), List.length_append]; rfl
        rw [rowD_no (.inl hp), hpc]
        have he : encAt L f k = mkB (rowD L f r L.length) := by unfold encAt; rw [hp, if_pos rfl, hr]
        rw [he, UInt8.xor_assoc]
        congr 1
        rcases Nat.mod_two_eq_zero_or_one (pcN L r k) with h | h
        · rw [if_neg (by omega), if_pos (by omega), UInt8.zero_xor]
        · rw [if_pos h, if_neg (by omega), UInt8.xor_self]
      | false =>
        have hpc : pcN L r (k + 1) = pcN L r k := by unfold pcN; rw [idx_no (by simp [hp])]
        rw [rowD_yes hp hr, colx_append, colx_one, hpc]
        have he : encAt L f k = f (dct L k) := by unfold encAt; rw [hp]; rfl
        rw [he, UInt8.xor_assoc, UInt8.xor_assoc]
        congr 1
        exact UInt8.xor_comm _ _
    · have hpc : pcN L r (k + 1) = pcN L r k := by unfold pcN; rw [idx_no (by simp [hr])]
      rw [rowG_no hr, rowD_no (.inr hr), hpc]
      exact ih
theorem row_zero (hf : ∀ i, (f i).size = 64) {r : Int} (h1 : pcN L r L.length = 1) (hne : rowD L f r L.length ≠ []) {i : Nat} (hi : i < 64) : colx (rowG L (encL L f) r L.length) i = 0 := by
  rw [row_col r i L.length (Nat.le_refl _), h1, if_pos rfl, (mk_ok (ok_of (rowD_sz hf) hne)).1, parB_at _ _ (by rw [wide_of (rowD_sz hf) hne]; exact hi), UInt8.xor_self]
/-- A column is made again by the others of its row, where these are as they are encoded. -/
theorem agn_eq (hS : Sound L) (hf : ∀ i, (f i).size = 64) {G : List ByteArray} {a : Nat} (ha : a < L.length) (h2 : 2 ≤ (idx (fun j => rowAt L j == rowAt L a) L.length).length) (h1 : pcN L (rowAt L a) L.length = 1) (hne : rowD L f (rowAt L a) L.length ≠ [])
    (hG : ∀ j, j < L.length → rowAt L j = rowAt L a → j ≠ a → G.getD j ⟨#[]⟩ = encAt L f j) : agn L G a = encAt L f a := by
  obtain ⟨r, hr, hm⟩ := idx_split (q := fun j => rowAt L j == rowAt L a) (a := a) (by simp) L.length ha
  have hO : (rowG L G (rowAt L a) L.length).eraseIdx (rowG L G (rowAt L a) a).length = (idx (fun j => rowAt L j == rowAt L a) a ++ r).map (encAt L f) := by
    unfold rowG
    rw [hr, List.length_map, List.map_append, List.map_cons, List.eraseIdx_append_of_length_le (by simp), List.length_map, Nat.sub_self, List.eraseIdx_zero, List.tail_cons, ← List.map_append]
    apply List.map_congr_left
    intro j hj
    rcases List.mem_append.1 hj with h | h
    · obtain ⟨h3, h4⟩ := idx_mem.1 h
      exact hG j (by omega) (by simpa using h4) (by omega)
    · obtain ⟨h3, h4, h5⟩ := hm j h
      exact hG j h4 (by simpa using h5) (by omega)
  have hsz : ∀ s ∈ (idx (fun j => rowAt L j == rowAt L a) a ++ r).map (encAt L f), s.size = 64 := by
    intro s hs
    obtain ⟨j, hj, rfl⟩ := List.mem_map.1 hs
    rcases List.mem_append.1 hj with h | h
    · exact enc_size hS hf j (Nat.lt_trans (idx_mem.1 h).1 ha)
    · exact enc_size hS hf j (hm j h).2.1
  have hn : (idx (fun j => rowAt L j == rowAt L a) a ++ r).map (encAt L f) ≠ [] := by
    intro e
    have e' := List.map_eq_nil_iff.1 e
    obtain ⟨e1, e2⟩ := List.append_eq_nil_iff.1 e'
    rw [hr, e1, e2] at h2
    simp at h2
  unfold agn
  rw [hO, (mk_ok (ok_of hsz hn)).1]
  refine parB_eq (by rw [wide_of hsz hn, enc_size hS hf a ha]) fun i hi => ?_
  rw [wide_of hsz hn] at hi
  have hz := row_zero hf h1 hne hi
  have hrow : rowG L (encL L f) (rowAt L a) L.length = (idx (fun j => rowAt L j == rowAt L a) a).map (encAt L f) ++ (encAt L f a :: r.map (encAt L f)) := by
    unfold rowG
    rw [hr, List.map_append, List.map_cons, encL_getD L f a ha]
    congr 1
    · apply List.map_congr_left
      intro j hj
      exact encL_getD L f j (Nat.lt_trans (idx_mem.1 hj).1 ha)
    · congr 1
      apply List.map_congr_left
      intro j hj
      exact encL_getD L f j (hm j hj).2.1
  rw [hrow, colx_append, colx_cons] at hz
  rw [List.map_append, colx_append]
  generalize colx ((idx (fun j => rowAt L j == rowAt L a) a).map (encAt L f)) i = x at hz ⊢
  generalize colx (r.map (encAt L f)) i = y at hz ⊢
  generalize (encAt L f a).data.toList.getD i 0 = e at hz ⊢
  have : x ^^^ y ^^^ e = 0 := by rw [← hz, UInt8.xor_assoc, UInt8.xor_comm y e]
  rwa [UInt8.xor_eq_zero_iff] at this
end

/-- The data as it was read, a device's made again, are the sectors. -/
theorem wth_eq {L : List C} {f : Nat → ByteArray} {G : List ByteArray} {d : Int}
    (h : ∀ j, j < L.length → parAt L j = false → (if devAt L j = d then agn L G j else G.getD j ⟨#[]⟩) = encAt L f j) : wth L G d L.length = (List.range (dct L L.length)).map f := by
  rw [← data_map f L.length (Nat.le_refl _)]
  unfold wth
  apply List.map_congr_left
  intro j hj
  obtain ⟨h1, h2⟩ := idx_mem.1 hj
  have h3 : parAt L j = false := by simpa using h2
  rw [h j h1 h3]
  unfold encAt
  rw [h3]
  rfl

/-- A block, its text, and its columns' texts. -/
structure Enc7 (l : List (Int × Int)) (sc : Int) (k t z : Nat) (s : ByteArray) (kk : Int) (u : Nat) (L : List C) (f : Nat → ByteArray) : Prop where
  blk : Blk l sc k t z
  hL : colsOf l k t z = L
  kind : Kinded l k t z kk u L
  hs : s.size = z * 64
  hf : ∀ i, (f i).size = 64
  sec : ∀ i, i < z → f i = sect s i
  mod : ∀ d i, i < z → f (d * z + i) = sect s i
  enc : encOf l k t z s = encL L f
  sound : Sound L
  rows : ∃ R, Rowed kk u z L R
theorem Blk.enc7 {l : List (Int × Int)} {sc : Int} {k t z : Nat} (h : Blk l sc k t z) {s : ByteArray} (hs : s.size = z * 64) : ∃ kk u, Enc7 l sc k t z s kk u (colsOf l k t z) fun i => sect s (i % z) := by
  obtain ⟨kk, u, hK⟩ := h.kinded
  have hk := h.hk
  have hlk : l[k] = (kk, (u : Int)) := by rw [← getD_at hk]; exact hK.grp
  exact ⟨kk, u, h, rfl, hK, hs, fun i => sect_size hs (Nat.mod_lt _ h.z1), fun i hi => by show sect s (i % z) = _; rw [Nat.mod_eq_of_lt hi],
    fun d i hi => by show sect s ((d * z + i) % z) = _; rw [Nat.add_comm, Nat.add_mul_mod_self_right, Nat.mod_eq_of_lt hi], rfl, h.sound, h.rowed hlk⟩
section
variable {l : List (Int × Int)} {sc : Int} {k t z : Nat} {s : ByteArray} {kk : Int} {u : Nat} {L : List C} {f : Nat → ByteArray}
theorem Enc7.fits (h : Enc7 l sc k t z s kk u L f) {G : List ByteArray} (hl : G.length = L.length) (hG : ∀ x ∈ G, x.size = 0 ∨ x.size = 64) : fitsL l sc k t z G = true := by
  unfold fitsL
  rw [mayL_iff.2 ⟨k, t, z, rfl, rfl, rfl, h.blk⟩]
  have e : colsI l k t z = L := h.hL
  rw [e, Bool.true_and, Bool.and_eq_true, decide_eq_true_iff]
  refine ⟨hl.symm, ?_⟩
  unfold fitL
  rw [List.all_eq_true]
  intro x hx
  unfold secT
  rw [Bool.or_eq_true, beq_iff_eq, beq_iff_eq]
  exact hG x hx
theorem Enc7.few (h : Enc7 l sc k t z s kk u L f) : 0 < L.length ∧ L.length ≤ 32 := by rw [← h.hL]; exact ⟨h.blk.laid.pos, h.blk.laid.few⟩
theorem Enc7.tries (h : Enc7 l sc k t z s kk u L f) {G : List ByteArray} (hl : G.length = L.length) (hG : ∀ x ∈ G, x.size = 0 ∨ x.size = 64) : triesOf l sc k t z G = if kk = 0 then triesM L G u z else triesP L G (-1 :: devsS ((datL L).map C.dev)) := by
  unfold triesOf
  rw [h.fits hl hG, if_pos rfl]
  show triesB l k t z G = _
  unfold triesB
  rw [h.kind.grp, h.hL]
  rfl
/-- All sectors, one behind the other. -/
theorem Enc7.joined (h : Enc7 l sc k t z s kk u L f) : joinB ((List.range z).map f) = s := by
  rw [List.map_congr_left (g := sect s) fun i hi => h.sec i (List.mem_range.1 hi)]
  exact join_sect h.hs
theorem Enc7.full (h : Enc7 l sc k t z s kk u L f) (g : Nat → ByteArray) (hg : ∀ i, i < z → g i = f i) : holeL ((List.range z).map g) = false := by
  unfold holeL
  rw [List.any_eq_false]
  intro x hx
  obtain ⟨i, hi, rfl⟩ := List.mem_map.1 hx
  rw [hg i (List.mem_range.1 hi), h.hf]
  decide
theorem Enc7.dataN (h : Enc7 l sc k t z s kk u L f) (h1 : kk = 1) : dct L L.length = z := by
  obtain ⟨R, hR⟩ := h.rows
  rw [dct_all, hR.datas, if_neg (by rw [h1]; decide)]
theorem count_congr {α : Type} {p q : α → Bool} (l : List α) (h : ∀ x ∈ l, p x = q x) : l.countP p = l.countP q := List.countP_congr fun x hx => by rw [h x hx]
theorem Enc7.one (h : Enc7 l sc k t z s kk u L f) (h1 : kk = 1) {a : Nat} (ha : a < L.length) : pcN L (rowAt L a) L.length = 1 := by
  obtain ⟨R, hR⟩ := h.rows
  obtain ⟨r0, r1⟩ := hR.in_ a ha
  obtain ⟨r, hr⟩ := Int.eq_ofNat_of_zero_le r0
  have hp := hR.pars r (by omega)
  rw [h1] at hp
  unfold pcN
  rw [rowAt_eq ha, idx_count (p := fun x : C => x.par && x.row == L[a].row) L (fun j hj => by rw [parAt_eq hj, rowAt_eq hj]) L.length (Nat.le_refl _), List.take_length]
  have : L.countP (fun x => x.par && x.row == L[a].row) = L.countP (fun x => decide (x.row = (r : Int)) && x.par) := count_congr L fun x _ => by
    rw [hr, Bool.and_comm]; congr 1
  omega
theorem Enc7.rowNe (h : Enc7 l sc k t z s kk u L f) (_ : kk = 1) {a : Nat} (ha : a < L.length) : rowD L f (rowAt L a) L.length ≠ [] := by
  intro e
  have e' := List.map_eq_nil_iff.1 e
  cases hp : parAt L a with
  | true => exact h.sound.data a ha hp e'
  | false =>
    have : a ∈ idx (fun j => !parAt L j && rowAt L j == rowAt L a) L.length := idx_mem.2 ⟨ha, by simp [hp]⟩
    rw [e'] at this
    cases this
theorem Enc7.pair (h : Enc7 l sc k t z s kk u L f) (h1 : kk = 1) : Paired L := by
  rcases h.kind.ok with h2 | h2
  · exact absurd (h1.symm.trans h2.1) (by decide)
  · exact h2.2.2.2.2
/-- A data column made again. -/
theorem Enc7.agn (h : Enc7 l sc k t z s kk u L f) (h1 : kk = 1) {G : List ByteArray} {a : Nat} (ha : a < L.length) (hp : parAt L a = false) (hG : ∀ j, j < L.length → rowAt L j = rowAt L a → j ≠ a → G.getD j ⟨#[]⟩ = encAt L f j) : agn L G a = encAt L f a :=
  agn_eq h.sound h.hf ha (h.pair h1 a ha hp) (h.one h1 ha) (h.rowNe h1 ha) hG
theorem Enc7.tryP (h : Enc7 l sc k t z s kk u L f) (h1 : kk = 1) {G : List ByteArray} {d : Int}
    (hw : ∀ j, j < L.length → parAt L j = false → (if devAt L j = d then Proofs.Ytlhnmcopioeboaa.agn L G j else G.getD j ⟨#[]⟩) = encAt L f j) : tryOf d (wth L G d L.length) = some (d, s) := by
  unfold tryOf
  rw [wth_eq hw, h.dataN h1, h.full f fun _ _ => rfl, h.joined]
  rfl
/-- A Mirror's columns. -/
theorem Enc7.mir (h : Enc7 l sc k t z s kk u L f) (h0 : kk = 0) : L = mirL (aheadL l k) t u z ∧ L.length = u * z ∧ 1 ≤ u ∧ u ≤ 8 := by
  rcases h.kind.ok with h2 | h2
  · exact ⟨h2.2.2.2.1, h2.2.2.2.2, h2.2.1, h2.2.2.1⟩
  · exact absurd (h0.symm.trans h2.1) (by decide)
theorem Enc7.noPar (h : Enc7 l sc k t z s kk u L f) (h0 : kk = 0) {j : Nat} (hj : j < L.length) : parAt L j = false := by
  rw [parAt_eq hj]
  obtain ⟨e, _⟩ := h.mir h0
  subst e
  rw [mirL_get _ _ _ h.blk.z1]
theorem Enc7.dctM (h : Enc7 l sc k t z s kk u L f) (h0 : kk = 0) : ∀ j, j ≤ L.length → dct L j = j := by
  intro j
  induction j with
  | zero => intro _; simp [dct]
  | succ j ih =>
    intro hj
    rw [dct_succ hj, ← parAt_eq hj, h.noPar h0 hj, ih (by omega)]
    rfl
theorem Enc7.encM (h : Enc7 l sc k t z s kk u L f) (h0 : kk = 0) {j : Nat} (hj : j < L.length) : encAt L f j = f j := by
  unfold encAt
  rw [h.noPar h0 hj, h.dctM h0 j (Nat.le_of_lt hj)]
  rfl
theorem Enc7.devM (h : Enc7 l sc k t z s kk u L f) (h0 : kk = 0) {j : Nat} (hj : j < L.length) : devAt L j = aheadL l k + (j / z : Nat) := by
  rw [devAt_eq hj]
  obtain ⟨e, _⟩ := h.mir h0
  subst e
  rw [mirL_get _ _ _ h.blk.z1]
theorem chunk_map {G : List ByteArray} {u z d : Nat} (hG : G.length = u * z) (hd : d < u) : chunk G z d = (List.range z).map fun i => G.getD (d * z + i) ⟨#[]⟩ := by
  have hl := chunk_len hG hd
  have hb : d * z + z ≤ u * z := by rw [← Nat.succ_mul]; exact Nat.mul_le_mul_right _ hd
  apply List.ext_getElem
  · rw [hl]; simp
  · intro i h1 h2
    have h3 : i < z := by rw [← hl]; exact h1
    have hi : d * z + i < G.length := by rw [hG]; omega
    have e : (chunk G z d)[i]? = some G[d * z + i] := by
      unfold chunk
      rw [List.getElem?_take, if_pos h3, List.getElem?_drop, List.getElem?_eq_getElem hi]
    rw [List.getElem?_eq_getElem h1] at e
    rw [Option.some.inj e, List.getElem_map, List.getElem_range, List.getD_eq_getElem?_getD, List.getElem?_eq_getElem hi]
    rfl
/-- A device of a Mirror that has all of the block. -/
theorem Enc7.tryM (h : Enc7 l sc k t z s kk u L f) (h0 : kk = 0) {G : List ByteArray} (hG : G.length = L.length) {d : Nat} (hd : d < u) (hw : ∀ i, i < z → G.getD (d * z + i) ⟨#[]⟩ = encAt L f (d * z + i)) : tryOf (devAt L (d * z)) (chunk G z d) = some (aheadL l k + (d : Int), s) := by
  obtain ⟨_, hl, _⟩ := h.mir h0
  have hb : d * z + z ≤ u * z := by rw [← Nat.succ_mul]; exact Nat.mul_le_mul_right _ hd
  have hz := h.blk.z1
  have e : chunk G z d = (List.range z).map f := by
    rw [chunk_map (by rw [hG, hl]) hd]
    apply List.map_congr_left
    intro i hi
    have hi := List.mem_range.1 hi
    rw [hw i hi, h.encM h0 (by rw [hl]; omega), h.mod d i hi, h.sec i hi]
  unfold tryOf
  rw [e, h.full f fun _ _ => rfl, h.joined, h.devM h0 (by rw [hl]; omega), Nat.mul_div_cancel _ hz]
  rfl
end
end Go.Proofs.Ytlhnmcopioeboaa

/- vdev.Write of any block; vdev.Mend. -/
namespace Go.Proofs.Ytlhnmcopioeboaa
set_option maxRecDepth 100000
open Go.RowKit Go.Maps M

theorem Blk.puts {l : List (Int × Int)} {sc : Int} {k t z : Nat} (h : Blk l sc k t z) {s : ByteArray} (hs : s.size = z * 64) {n : Nat} (hn : devsL l sc = (n : Int)) : Puts n sc (colsOf l k t z) (encOf l k t z s) := by
  obtain ⟨kk, u, hE⟩ := h.enc7 hs
  have hl := h.laid
  refine ⟨encOf_len _ _ _ _ _, hl.pos, hl.few, fun j hj => ?_, fun j hj => ?_, fun j hj => ?_⟩
  · obtain ⟨h0, h1⟩ := h.dev j hj
    have e : devN (colsOf l k t z) j = (colsOf l k t z)[j].dev.toNat := by unfold devN; rw [List.getD_eq_getElem?_getD, List.getElem?_eq_getElem hj]; rfl
    rw [e]
    omega
  · have h0 := hl.at0 j hj
    have h1 := hl.at1 j hj
    have e : atN (colsOf l k t z) j = (colsOf l k t z)[j].at_.toNat := by unfold atN; rw [List.getD_eq_getElem?_getD, List.getElem?_eq_getElem hj]; rfl
    rw [e]
    omega
  · rw [List.getD_eq_getElem?_getD, List.getElem?_eq_getElem hj]
    have := encL_size hE.sound hE.hf
    rw [← hE.enc] at this
    exact this _ (List.getElem_mem hj)

/-- What Write answers of any block, and what becomes of the devices. -/
def Wrote (l : List (Int × Int)) (sc k t : Int) (s : ByteArray) (ds : Nat → Dv) (aw : Nat → Bool) (ds' : Nat → Dv) (n : Nat) (er : Int) : Prop :=
  (mayT l sc k t s.size = false ∧ ds' = ds ∧ n = 0 ∧ er = 1) ∨
  ∃ k' t' z' : Nat, k = k' ∧ t = t' ∧ s.size = z' * 64 ∧ ∃ hB : Blk l sc k' t' z', ds' = wrTo ds aw (colsOf l k' t' z') (encOf l k' t' z' s) (colsOf l k' t' z').length ∧ n = failN ds aw (colsOf l k' t' z') ∧ er = errN (l[k']'hB.hk) n

section
variable {B : Nat} {w : World} {x : Px} {l : List (Int × Int)} {ds : Nat → Dv} {aw : Nat → Bool} {K : Nat} {P : World → Prop}
set_option maxHeartbeats 2000000 in
theorem write8_bad (h : St B w x l ds aw K P) (k t : Int) (hk : I64 k) (ht : I64 t) (s : ByteArray) (hs : s.size ≤ 1000) (hno : mayT l x.sc k t s.size = false) :
    Calls Try.prog 9 #[x.val, .agg #[.int .i64 k, .int .i64 t], .string s] w fun e w' =>
      e = .returned (.tuple #[.int .i64 0, .int .i64 1]) ∧ Below w.heap.size w w' := by
  obtain ⟨wa, w2, ea, e2, z2, H2, b2⟩ := boxes8 h k t 32 26
  have HA := Lib.hid ea
  have HE2 := Lib.hid e2
  have HB2 := Lib.hid b2
  have HE := Lib.hid (encoded_any H2 k t hk ht s hs)
  have HNO := Lib.hid hno
  obtain ⟨_, ⟨x0, x1, x2, x3⟩, y0, y1⟩ := H2.out
  unfold Px.val at HE ⊢
  clear h H2 ea e2 b2 hno hk ht
  go_enter Try.func9, Try.ntmps9
  go_wp2_with (first | (rw [HA.out, HE2.out]; fail))
  rw [HA.out, HE2.out]
  go_wp2_with fail
  refine HE.out.mono ?_
  rintro e w3 ⟨v1, v2, er, rfl, he, b3⟩
  rcases he with ⟨_, rfl, rfl, rfl⟩ | ⟨k', t', z', rfl, rfl, es, hB', rfl, hN⟩
  · go_wp2
    go_ret2
    exact ⟨rfl, next HB2.out b3⟩
  · exfalso
    have := mayT_iff.2 ⟨k', t', z', rfl, rfl, es, hB'⟩
    rw [HNO.out] at this
    cases this
theorem write8_any (h : St B w x l ds aw K P) (k t : Int) (hk : I64 k) (ht : I64 t) (s : ByteArray) (hs : s.size ≤ 1000) (hK : K < 4000000000) :
    Calls Try.prog 9 #[x.val, .agg #[.int .i64 k, .int .i64 t], .string s] w fun e w' =>
      ∃ n er ds', e = .returned (.tuple #[.int .i64 (n : Nat), .int .i64 er]) ∧ Wrote l x.sc k t s ds aw ds' n er ∧ St B w' x l ds' aw (K + 32) P ∧ Below B w w' := by
  cases hm : mayT l x.sc k t s.size with
  | false => exact (write8_bad h k t hk ht s hs hm).mono fun e w' ⟨h1, h2⟩ => ⟨0, 1, ds, h1, .inl ⟨hm, rfl, rfl, rfl⟩, (h.below h2).more (by omega), h2.mono h.lt.2⟩
  | true =>
    obtain ⟨k', t', z', rfl, rfl, h3, hB⟩ := mayT_iff.1 hm
    exact (write8_ok h k' t' z' hB s hs h3 (hB.puts h3 h.right.2) hK).mono fun e w' ⟨h1, h2, h4⟩ => ⟨_, _, _, h1, .inr ⟨k', t', z', rfl, rfl, h3, hB, rfl, rfl, rfl⟩, h2, h4⟩

/-- Which of a list's places there are. -/
def okAt (m : Nat) (k : Int) : Bool := decide (0 ≤ k) && decide (k < m)
/-- The devices behind the mending of j places, and how many were taken. -/
def meTo (ds : Nat → Dv) (aw : Nat → Bool) (L : List C) (E : List ByteArray) (q : Nat → Int) : Nat → Nat → Dv
  | 0 => ds
  | j + 1 => if okAt L.length (q j) then putD (meTo ds aw L E q j) aw (devN L (q j).toNat) (atN L (q j).toNat) (E.getD (q j).toNat ⟨#[]⟩) else meTo ds aw L E q j
def meN (hr : Nat → Bool) (L : List C) (q : Nat → Int) : Nat → Nat
  | 0 => 0
  | j + 1 => if okAt L.length (q j) && hr (devN L (q j).toNat) then meN hr L q j + 1 else meN hr L q j
theorem meTo_here (ds : Nat → Dv) (aw : Nat → Bool) (L : List C) (E : List ByteArray) (q : Nat → Int) (j : Nat) : hereB (meTo ds aw L E q j) aw = hereB ds aw := by
  induction j with
  | zero => rfl
  | succ j ih =>
    rw [meTo]
    split
    · rw [hereB_put, ih]
    · exact ih
theorem meN_le (hr : Nat → Bool) (L : List C) (q : Nat → Int) (j : Nat) : meN hr L q j ≤ j := by
  induction j with
  | zero => exact Nat.le_refl _
  | succ j ih =>
    rw [meN]
    split <;> omega
set_option maxHeartbeats 4000000 in
theorem mend_ok (h : St B w x l ds aw K P) (k t z : Nat) (hBl : Blk l x.sc k t z) (s : ByteArray) (hs : s.size ≤ 1000) (hsz : s.size = z * 64) (hP : Puts x.n x.sc (colsOf l k t z) (encOf l k t z s)) (hK : K < 4000000000)
    (a : Option Addr) (N c : Nat) (q : Nat → Int) (hN : N ≤ 1000000) (hq : ∀ w', Below B w w' → ∀ i, i < N → ∃ g o, a = some ⟨g, o, none⟩ ∧ w'.cell? ⟨g, o + i, none⟩ = some (.int .i64 (q i))) (hqb : ∀ i, i < N → I64 (q i)) :
    Calls Try.prog 10 #[x.val, .agg #[.int .i64 (k : Int), .int .i64 (t : Int)], .string s, .slice a N c] w fun e w' =>
      e = .returned (.int .i64 (meN (hereB ds aw) (colsOf l k t z) q N : Int)) ∧ St B w' x l (meTo ds aw (colsOf l k t z) (encOf l k t z s) q N) aw (K + N) P ∧ Below B w w' := by
  obtain ⟨_, h32⟩ := h.right.1.devs h.right.2
  have hbd := hBl.bounds
  obtain ⟨wa, w2, ea, e2, z2, H2, b2⟩ := boxes8 h k t 32 26
  have HA := Lib.hid ea
  have HE2 := Lib.hid e2
  have HB2 := Lib.hid b2
  have hBw := h.lt.2
  have HE := Lib.hid (encoded_any H2 k t ⟨by omega, by omega⟩ ⟨by omega, by omega⟩ s hs)
  have HST := Lib.hid H2
  have HBL := Lib.hid hBl
  have HP := Lib.hid hP
  have HSZ := Lib.hid hsz
  have HQ := Lib.hid hq
  have HQB := Lib.hid hqb
  obtain ⟨_, ⟨x0, x1, x2, x3⟩, y0, y1⟩ := H2.out
  unfold Px.val at HE ⊢
  generalize hL : colsOf l k t z = L
  generalize hEn : encOf l k t z s = E
  have HL := Lib.hid hL
  have HEN := Lib.hid hEn
  clear h H2 ea e2 b2 hP hsz hL hEn hq hqb
  go_enter Try.func10, Try.ntmps10
  go_wp2_with (first | (rw [HA.out, HE2.out]; fail))
  rw [HA.out, HE2.out]
  go_wp2_with fail
  refine HE.out.mono ?_
  rintro e w3 ⟨v1, v2, er, rfl, he, b3⟩
  rcases he with ⟨hno, _, _, _⟩ | ⟨k', t', z', ek, et, es, hB', rfl, hN3⟩
  · exfalso
    have := mayT_iff.2 ⟨k, t, z, rfl, rfl, HSZ.out, HBL.out⟩
    rw [this] at hno
    cases hno
  · obtain rfl : k = k' := by omega
    obtain rfl : t = t' := by omega
    obtain rfl : z = z' := by have := HSZ.out; omega
    rw [HL.out, HEN.out] at hN3
    have HP' := Lib.hid (show Puts x.n x.sc L E by rw [← HL.out, ← HEN.out]; exact HP.out)
    have HST3 := Lib.hid (HST.out.add b3 hN3)
    have HB3 := Lib.hid (next HB2.out b3)
    clear x0 x1 x2 x3 y0 y1 b3 HST HB2 hN3 HE HP ek et es
    obtain ⟨hc3, ht3⟩ := HST3.out.out.2
    obtain ⟨m, hm⟩ : ∃ m, L.length = m := ⟨_, rfl⟩
    have hEm : E.length = m := by rw [HP'.out.len, hm]
    have hm0 : 0 < m := by rw [← hm]; exact HP'.out.pos
    have hm32 : m ≤ 32 := by rw [← hm]; exact HP'.out.few
    obtain ⟨g1, c1, rfl, hgc1, hg1, _⟩ := hc3.some (by omega)
    obtain ⟨g2, c2, rfl, hgc2, hg2, _⟩ := own_ex ht3 (by omega)
    have HST4 := Lib.hid (HST3.out.mono (Q := Kp8 P x k t w.heap.size g1 g2 m L E) fun w' h => ⟨h.1.1, h.1.2.1, h.1.2.2, ownC_in h.2.1, fun j hj => own_in h.2.2 j (by omega)⟩)
    have HB4 := Lib.hid (HB3.out.mono hBw)
    rw [hm] at hgc1 ⊢
    rw [hEm] at hgc2 ⊢
    clear hc3 ht3 HST3 hg1 hg2
    have HM := Lib.hid hm
    have HEM := Lib.hid hEm
    clear hm hEm
    go_wp2_with fail
    go_loopw [12, 27] (fun nv i wr => ∃ j : Nat, j ≤ N ∧ i = .int .i64 j ∧ nv = .int .i64 (meN (hereB ds aw) L q j : Int) ∧ St B wr x l (meTo ds aw L E q j) aw (K + j) (Kp8 P x k t w.heap.size g1 g2 m L E) ∧ Below B w wr) (fun _ i _ => N - (intOf i).toNat)
    case atStart => exact ⟨0, Nat.zero_le _, rfl, rfl, HST4.out, HB4.out⟩
    case round =>
      obtain ⟨j, hj, rfl, rfl, hst, hbw⟩ := hrel
      have HS := Lib.hid hst
      have HBW := Lib.hid hbw
      have hml := meN_le (hereB ds aw) L q j
      clear hst hbw
      obtain ⟨_, ⟨x0, x1, x2, x3⟩, ⟨y0, y1⟩, hc, htx⟩ := HS.out.out
      by_cases hlt : j < N
      · obtain ⟨gq, oq, rfl, hqc⟩ := HQ.out wr HBW.out j hlt
        obtain ⟨qb0, qb1⟩ := HQB.out j hlt
        have HM1 : Hid (meTo ds aw L E q (j + 1) = if okAt m (q j) then putD (meTo ds aw L E q j) aw (devN L (q j).toNat) (atN L (q j).toNat) (E.getD (q j).toNat ⟨#[]⟩) else meTo ds aw L E q j) := Lib.hid (by rw [meTo, HM.out])
        have HF1 : Hid (meN (hereB ds aw) L q (j + 1) = if okAt m (q j) && hereB ds aw (devN L (q j).toNat) then meN (hereB ds aw) L q j + 1 else meN (hereB ds aw) L q j) := Lib.hid (by rw [meN, HM.out])
        have HHR := Lib.hid (meTo_here ds aw L E q j)
        generalize hqj : q j = qj at *
        generalize meN (hereB ds aw) L q j = T at *
        by_cases hin : 0 ≤ qj ∧ qj < (m : Int)
        · obtain ⟨r, rfl⟩ := Int.eq_ofNat_of_zero_le hin.1
          have hrm : r < m := by omega
          have hc' := hc r (by rw [HM.out]; exact hrm)
          obtain ⟨d0, d1⟩ := HP'.out.dev r (by rw [HM.out]; exact hrm)
          obtain ⟨a0, a1⟩ := HP'.out.at_ r (by rw [HM.out]; exact hrm)
          have hsz := HP'.out.size r (by rw [HEM.out]; exact hrm)
          have hok : okAt m (r : Int) = true := by unfold okAt; simp; omega
          rw [hok, if_pos rfl] at HM1
          rw [hok, Bool.true_and] at HF1
          rw [Int.toNat_natCast] at HM1 HF1
          generalize hTX : E.getD r ⟨#[]⟩ = tx at *
          have HTX := Lib.hid hTX
          clear hTX
          have ht' := (htx r hrm).trans (by rw [HTX.out])
          generalize devN L r = d at *
          generalize atN L r = a at *
          generalize hcc : L[r]'(by rw [HM.out]; exact hrm) = cc at *
          have HCC : Hid (∃ h : r < L.length, L[r] = cc) := Lib.hid ⟨by rw [HM.out]; exact hrm, hcc⟩
          clear hc htx hcc
          obtain ⟨cd, ca, cp, cr⟩ := cc
          simp only at d0 a0
          subst d0 a0
          have e0 := hc'.c0
          have e1 := hc'.c1
          have e2 := hc'.c2
          have e3 := hc'.c3
          simp only at e0 e1 e2 e3
          clear hc'
          have d1' : decide ((0 : Int) ≤ (r : Int)) = true := by simp
          have d2' : decide ((r : Int) < (m : Int)) = true := by simpa using hrm
          go_wp2_with fail
          have HPU := Lib.hid (put_any (HS.out.below ((Below.refl _ wr).drew)) ⟨d, a, cp, cr⟩ d a rfl d1 rfl a1 tx hsz (by omega))
          rw [HHR.out] at HPU
          unfold Px.val C.val at HPU
          have q1 : (0 : Int) ≤ (r : Int) := by omega
          have q2 : (r : Int) < (m : Int) := by omega
          go_region_held3 (fun W => W.cell? ⟨w.heap.size, 0, none⟩ = some (.slice x.ga x.gn x.gc) ∧ W.cell? ⟨w.heap.size, 1, none⟩ = some (.int .i64 x.sc) ∧ W.cell? ⟨w.heap.size, 2, none⟩ = some (.slice (some ⟨x.lb, 0, none⟩) x.n x.n) ∧ W.cell? ⟨w.heap.size, 3, none⟩ = some (.slice (some ⟨x.ab, 0, none⟩) x.n x.n) ∧ W.cell? ⟨g1, r * 4, none⟩ = some (.int .i64 (d : Int)) ∧ W.cell? ⟨g1, r * 4 + 1, none⟩ = some (.int .i64 (a : Int)) ∧ W.cell? ⟨g1, r * 4 + 2, none⟩ = some (.bool cp) ∧ W.cell? ⟨g1, r * 4 + 3, none⟩ = some (.int .i64 cr) ∧ W.cell? ⟨g2, r, none⟩ = some (.string tx))
            (first | exact ⟨x0, x1, x2, x3, e0, e1, e2, e3, ht'⟩ | exact ⟨k0, k1, k2, k3, k4, k5, k6, k7, k8⟩)
            (first | (go_at_call 28; refine HPU.out.mono ?_; rintro e w7 ⟨rfl, h7, b7, hX7⟩; have HS7 := Lib.hid h7; obtain ⟨_, ⟨k0, k1, k2, k3⟩, _, hc7, htx7⟩ := h7.out; obtain ⟨hrL, hcc7⟩ := HCC.out; obtain ⟨k4, k5, k6, k7⟩ := hc7 r hrL; simp only [hcc7] at k4 k5 k6 k7; have k8 := (htx7 r hrm).trans (by rw [HTX.out]); clear htx7 h7 hc7 hcc7))
          have HB7 := Lib.hid (HBW.out.drew.trans b7)
          clear b7 hX7 x0 x1 x2 x3 e0 e1 e2 e3 ht' HPU
          cases hh : hereB ds aw d with
          | true =>
            go_wp2
            go_roundw
            case rel =>
              refine ⟨j + 1, by omega, by go_num, ?_, ?_, HB7.out⟩
              · rw [HF1.out, hh, if_pos rfl]; go_num
              · rw [HM1.out]; exact HS7.out
            case measure => simp [intOf]; omega
          | false =>
            go_wp2
            go_roundw
            case rel =>
              refine ⟨j + 1, by omega, by go_num, ?_, ?_, HB7.out⟩
              · rw [HF1.out, hh, if_neg (by simp)]
              · rw [HM1.out]; exact HS7.out
            case measure => simp [intOf]; omega
        · have hok : okAt m qj = false := by unfold okAt; simp; omega
          rw [hok, if_neg (by simp)] at HM1
          rw [hok, Bool.false_and, if_neg (by simp)] at HF1
          clear hc htx
          by_cases hneg : qj < 0
          · have d1' : decide ((0 : Int) ≤ qj) = false := by simpa using hneg
            go_wp2_with fail
            haveI hne : Nonempty (Ext wr) := Ext.some wr
            refine wp_region_family (Ext.v (W := wr)) (by kernel_rfl) (by kernel_rfl) ⟨⟨_, (Below.refl _ wr).drew⟩, rfl⟩ ?_
            repeat (go_big_quiet_step (first | fail))
            refine wpQuiet_nil ?_
            rintro w7 ⟨⟨w4, K4⟩, rfl⟩
            go_wp2
            go_roundw
            case rel =>
              refine ⟨j + 1, by omega, by go_num, ?_, ?_, HBW.out.trans (K4.mono HS.out.lt.2)⟩
              · rw [HF1.out]
              · rw [HM1.out]; exact (HS.out.below K4).more (by omega)
            case measure => simp [intOf]; omega
          · have d1' : decide ((0 : Int) ≤ qj) = true := by simp; omega
            have d2' : decide (qj < (m : Int)) = false := by simp; omega
            go_wp2_with fail
            haveI hne : Nonempty (Ext wr) := Ext.some wr
            refine wp_region_family (Ext.v (W := wr)) (by kernel_rfl) (by kernel_rfl) ⟨⟨_, (Below.refl _ wr).drew⟩, rfl⟩ ?_
            repeat (go_big_quiet_step (first | fail))
            refine wpQuiet_nil ?_
            rintro w7 ⟨⟨w4, K4⟩, rfl⟩
            go_wp2
            go_roundw
            case rel =>
              refine ⟨j + 1, by omega, by go_num, ?_, ?_, HBW.out.trans (K4.mono HS.out.lt.2)⟩
              · rw [HF1.out]
              · rw [HM1.out]; exact (HS.out.below K4).more (by omega)
            case measure => simp [intOf]; omega
      · obtain rfl : j = N := by omega
        go_wp2
        go_ret
        exact ⟨rfl, HS.out.mono fun w h => h.p, HBW.out⟩
end
end Go.Proofs.Ytlhnmcopioeboaa

/- vdev.Raw: what a block's columns read as. -/
namespace Go.Proofs.Ytlhnmcopioeboaa
set_option maxRecDepth 100000
open Go.RowKit Go.Maps M

/-- What a column reads as. -/
def rawAt (ds : Nat → Dv) (aw : Nat → Bool) (L : List C) (j : Nat) : ByteArray := if hereB ds aw (devN L j) then strOf ((ds (devN L j)).now (atN L j)) else ⟨#[]⟩
def rawTo (ds : Nat → Dv) (aw : Nat → Bool) (L : List C) (m j : Nat) : List ByteArray := (List.range m).map fun i => if i < j then rawAt ds aw L i else ⟨#[]⟩
def rawL (ds : Nat → Dv) (aw : Nat → Bool) (L : List C) : List ByteArray := (List.range L.length).map (rawAt ds aw L)
theorem rawTo_zero (ds : Nat → Dv) (aw : Nat → Bool) (L : List C) (m : Nat) : rawTo ds aw L m 0 = List.replicate m ⟨#[]⟩ := by
  unfold rawTo
  simp only [Nat.not_lt_zero, if_false]
  rw [List.map_const', List.length_range]
theorem rawTo_all (ds : Nat → Dv) (aw : Nat → Bool) (L : List C) (m : Nat) (hm : L.length = m) : rawTo ds aw L m m = rawL ds aw L := by
  unfold rawTo rawL
  rw [hm]
  apply List.map_congr_left
  intro i hi
  rw [if_pos (List.mem_range.1 hi)]
theorem rawTo_set (ds : Nat → Dv) (aw : Nat → Bool) (L : List C) (m j : Nat) (hj : j < m) : (rawTo ds aw L m j).set j (rawAt ds aw L j) = rawTo ds aw L m (j + 1) := by
  unfold rawTo
  apply List.ext_getElem?
  intro i
  by_cases hi : i < m
  · by_cases e : j = i
    · subst e
      rw [List.getElem?_set_self (by simpa using hj), List.getElem?_map, List.getElem?_range hj]
      simp
    · rw [List.getElem?_set_ne e, List.getElem?_map, List.getElem?_map, List.getElem?_range hi]
      simp only [Option.map_some]
      congr 1
      by_cases h : i < j
      · rw [if_pos h, if_pos (by omega)]
      · rw [if_neg h, if_neg (by omega)]
  · rw [List.getElem?_eq_none (by simp; omega), List.getElem?_eq_none (by simp; omega)]
theorem rawTo_skip (ds : Nat → Dv) (aw : Nat → Bool) (L : List C) (m j : Nat) (h : hereB ds aw (devN L j) = false) : rawTo ds aw L m j = rawTo ds aw L m (j + 1) := by
  unfold rawTo
  apply List.map_congr_left
  intro i _
  by_cases e : i = j
  · subst e
    rw [if_neg (by omega), if_pos (by omega), rawAt, h]
    rfl
  · by_cases h : i < j
    · rw [if_pos h, if_pos (by omega)]
    · rw [if_neg h, if_neg (by omega)]
theorem rawL_len (ds : Nat → Dv) (aw : Nat → Bool) (L : List C) : (rawL ds aw L).length = L.length := by simp [rawL]
theorem rawL_at (ds : Nat → Dv) (aw : Nat → Bool) (L : List C) (j : Nat) (hj : j < L.length) : (rawL ds aw L).getD j ⟨#[]⟩ = rawAt ds aw L j := by
  unfold rawL
  rw [List.getD_eq_getElem?_getD, List.getElem?_map, List.getElem?_range hj]
  rfl

theorem cell_store {w : World} {g j b o : Nat} {v u : Value} (h : w.cell? ⟨b, o, none⟩ = some u) (hb : b ≠ g) : (w.setCell ⟨g, j, none⟩ v).cell? ⟨b, o, none⟩ = some u := by
  rw [World.cell?_setCell_other _ _ _ _ (by intro e; cases e; exact hb rfl)]
  exact h
section
variable {X : Nat → Prop} {B : Nat} {w : World} {x : Px} {l : List (Int × Int)} {ds : Nat → Dv} {aw : Nat → Bool} {K : Nat} {P : World → Prop}
set_option maxHeartbeats 4000000 in
theorem raw_ok (h : StX X B w x l ds aw K P) (k t z : Nat) (hBl : Blk l x.sc k t z) :
    Calls Try.prog 11 #[x.val, .agg #[.int .i64 (k : Int), .int .i64 (t : Int)], .int .i64 (z : Int)] w fun e w' =>
      ∃ v, e = .returned (.tuple #[v, .int .i64 0]) ∧ Own w' w.heap.size v (rawL ds aw (colsOf l k t z)) ∧ Below w.heap.size w w' := by
  obtain ⟨_, h32⟩ := h.right.1.devs h.right.2
  have hz4 := hBl.z4
  have hPd : Hid (∀ j (h : j < (colsOf l k t z).length), ((colsOf l k t z)[j].dev = (devN (colsOf l k t z) j : Int) ∧ devN (colsOf l k t z) j < x.n) ∧ (colsOf l k t z)[j].at_ = (atN (colsOf l k t z) j : Int) ∧ (atN (colsOf l k t z) j : Int) < x.sc) := Lib.hid fun j hj => by
    have hp := hBl.puts (s := ⟨(List.replicate (z * 64) (0 : UInt8)).toArray⟩) (by simp [ByteArray.size]) h.right.2
    exact ⟨hp.dev j hj, hp.at_ j hj⟩
  have hpos := hBl.laid.pos
  have hfew := hBl.laid.few
  obtain ⟨wa, w2, ea, e2, z2, H2, b2⟩ := boxes8 h k t 32 26
  have HA := Lib.hid ea
  have HE2 := Lib.hid e2
  have HB2 := Lib.hid b2
  have HR := Lib.hid (right8_any H2)
  have HST := Lib.hid H2
  have HBL := Lib.hid hBl
  obtain ⟨_, ⟨x0, x1, x2, x3⟩, y0, y1⟩ := H2.out
  unfold Px.val at HR ⊢
  generalize hL : colsOf l k t z = L at hPd hpos hfew ⊢
  have HL := Lib.hid hL
  clear h H2 ea e2 b2 hL hBl
  go_enter Try.func11, Try.ntmps11
  go_wp2_with (first | (rw [HA.out, HE2.out]; fail))
  rw [HA.out, HE2.out]
  go_wp2_with fail
  refine HR.out.mono ?_
  rintro e w3 ⟨rfl, b3⟩
  have HST3 := Lib.hid (HST.out.below b3)
  have HB3 := Lib.hid (next HB2.out b3)
  clear x0 x1 x2 x3 y0 y1 b3 HST HB2
  obtain ⟨_, ⟨x0, x1, x2, x3⟩, y0, y1⟩ := HST3.out.out
  have HC := Lib.hid (of_ok l x.sc x.g w3 HST3.out.meas k t z HBL.out)
  rw [HL.out] at HC
  unfold Px.g at HC
  go_wp2_with fail
  refine HC.out.mono ?_
  rintro e w4 ⟨v4, rfl, hO4, b4⟩
  have HST4 := Lib.hid (HST3.out.add b4 (New.cols hO4))
  have HB4 := Lib.hid (next HB3.out b4)
  obtain ⟨m, hm⟩ : ∃ m, L.length = m := ⟨_, rfl⟩
  obtain ⟨g1, c1, rfl, hgc1, hg1, _⟩ := hO4.some hpos
  rw [hm] at hpos hfew hgc1 ⊢
  clear x0 x1 x2 x3 y0 y1 HC hO4 HST3
  obtain ⟨w5, hmk, hO5, b5, z5⟩ := make_texts w4 w.heap.size m HB4.out.size (by omega)
  have HST5 := Lib.hid (HST4.out.below b5)
  have HB5 := Lib.hid (next HB4.out b5)
  have HO5 := Lib.hid hO5
  have HM := Lib.hid hm
  have HG : Hid (w.heap.size ≤ w4.heap.size) := Lib.hid HB4.out.size
  clear hm hO5 b4
  go_wp2_with fail
  have HB45 := Lib.hid b5
  have HNE : Hid (w.heap.size ≠ w4.heap.size ∧ ∀ d, d < x.n → x.lb ≠ w4.heap.size) := Lib.hid ⟨by
    have := World.block_lt_of_cell? w4 _ HST4.out.out.1.2.1.c0
    simp only at this
    omega, fun d hd => by
    obtain ⟨b, f, cl, _⟩ := HST4.out.at_ hd
    have := World.block_lt_of_cell? w4 _ cl
    simp only at this
    omega⟩
  generalize hgg : w4.heap.size = gg at *
  have HGG := Lib.hid hgg
  clear hmk b5 hgg HST5
  go_loopw [32] (fun i wr => ∃ j : Nat, j ≤ m ∧ i = .int .i64 j ∧ Own wr w.heap.size (.slice (some ⟨gg, 0, none⟩) m m) (rawTo ds aw L m j) ∧ Below gg w4 wr) (fun i _ => m - (intOf i).toNat)
  case atStart => exact ⟨0, Nat.zero_le _, rfl, by rw [rawTo_zero]; exact HO5.out, HB45.out⟩
  case round =>
    obtain ⟨j, hj, rfl, ho, hb⟩ := hrel
    have HO := Lib.hid ho
    have HS := Lib.hid (HST4.out.below (w' := wr) (by rw [HGG.out]; exact hb))
    have HB := Lib.hid hb
    have hgw : gg ≤ wr.heap.size := by have := hb.size; have := HGG.out; omega
    have HGW := Lib.hid hgw
    have HNW : Hid (wr.heap.size ≠ gg) := Lib.hid (by
      obtain ⟨g', eg, _, hg', _⟩ := ho.at_ hpos
      simp only [Option.some.injEq, Addr.mk.injEq, and_true] at eg
      omega)
    clear ho hb hgw
    obtain ⟨⟨_, ⟨x0, x1, x2, x3⟩, y0, y1⟩, hcl⟩ := HS.out.out
    by_cases hlt : j < m
    · have hjL : j < L.length := by rw [HM.out]; exact hlt
      obtain ⟨⟨d0, d1⟩, a0, a1⟩ := hPd.out j hjL
      obtain ⟨e0, e1, e2, e3⟩ := ownC_in hcl j hjL
      have HRA : Hid (rawAt ds aw L j = if hereB ds aw (devN L j) then strOf ((ds (devN L j)).now (atN L j)) else ⟨#[]⟩) := Lib.hid rfl
      have HSK : Hid (hereB ds aw (devN L j) = false → rawTo ds aw L m j = rawTo ds aw L m (j + 1)) := Lib.hid (rawTo_skip ds aw L m j)
      generalize devN L j = d at *
      generalize atN L j = a at *
      generalize L[j] = cc at *
      obtain ⟨cd, ca, cp, cr⟩ := cc
      simp only at d0 a0 e0 e1 e2 e3
      subst d0 a0
      have hb6 := boxed wr (.cells #[.int .i64 (d : Int), .int .i64 (a : Int), .bool cp, .int .i64 cr] 58)
      have HS6 := Lib.hid (HS.out.add hb6 (BoxC.new wr ⟨d, a, cp, cr⟩ _ (Nat.le_refl _) 58))
      have HO6 := Lib.hid (HO.out.below hb6)
      have HB6 := Lib.hid (HB.out.trans (hb6.mono HGW.out))
      have HH := Lib.hid (here_any HS6.out d d1)
      unfold Px.val at HH
      obtain ⟨⟨⟨_, ⟨f0, f1, f2, f3⟩, _⟩, _⟩, ⟨f4, f5, f6, f7⟩⟩ := HS6.out.out
      go_wp2_with fail
      refine HH.out.mono ?_
      rintro e w7 ⟨rfl, b7⟩
      have HS7 := Lib.hid (HS6.out.below b7)
      have HO7 := Lib.hid (HO6.out.below b7)
      have HB7 := Lib.hid (HB6.out.trans (b7.mono (by simp; exact Nat.le_succ_of_le HGW.out)))
      clear b7 hb6 x0 x1 x2 x3 y0 y1 e0 e1 e2 e3 f0 f1 f2 f3 f4 f5 f6 f7 hcl HS6 HO6 HB6 HH HS HO HB
      cases hh : hereB ds aw d with
      | false =>
        have HSK' := Lib.hid (HSK.out hh)
        clear HSK
        go_wp2
        go_roundw
        case rel => exact ⟨j + 1, by omega, by go_num, by rw [← HSK'.out]; exact HO7.out, HB7.out⟩
        case measure => simp [intOf]; omega
      | true =>
        rw [hh, if_pos rfl] at HRA
        have hl : (ds d).lost = false := by
          unfold hereB at hh
          simp at hh
          exact hh.2
        have hlen := (HS7.out.good d1).len
        obtain ⟨b, f, cl, hdv⟩ := (HS7.out.below (Below.refl _ w7).drew).at_ d1
        have HRD := Lib.hid (read_ok b (ds d) f a _ hdv hl (by omega))
        generalize strOf ((ds d).now a) = tx at *
        obtain ⟨⟨⟨_, ⟨x0, x1, x2, x3⟩, _⟩, _⟩, ⟨k0, k1, _, _⟩⟩ := HS7.out.out
        simp only at k0 k1
        obtain ⟨g', eg, _, _, _, _, hfz, hcg⟩ := HO7.out.at_ hpos
        simp only [Option.some.injEq, Addr.mk.injEq, and_true] at eg
        subst eg
        have hcj := hcg j (by simp [rawTo]; exact hlt)
        have hfj := hfz j hlt
        generalize (rawTo ds aw L m j)[j]'(by simp [rawTo]; exact hlt) = old at hcj
        clear hcg hfz hh hdv HSK hl
        have q1 : (0 : Int) ≤ (d : Int) := by omega
        have q2 : (d : Int) < (x.n : Int) := by omega
        have q3 : (0 : Int) ≤ (j : Int) := by omega
        have q4 : (j : Int) < (m : Int) := by omega
        go_wp2_with fail
        have n1 : w.heap.size ≠ gg := HNE.out.1
        have n2 : x.lb ≠ gg := HNE.out.2 d d1
        have n3 : wr.heap.size ≠ gg := HNW.out
        have m2 : (w7.drew.setCell ⟨gg, j, none⟩ (.string tx)).cell? ⟨w.heap.size, 2, none⟩ = some (.slice (some ⟨x.lb, 0, none⟩) x.n x.n) := cell_store x2 n1
        have m0 : (w7.drew.setCell ⟨gg, j, none⟩ (.string tx)).cell? ⟨wr.heap.size, 0, none⟩ = some (.int .i64 (d : Int)) := cell_store k0 n3
        have m1 : (w7.drew.setCell ⟨gg, j, none⟩ (.string tx)).cell? ⟨wr.heap.size, 1, none⟩ = some (.int .i64 (a : Int)) := cell_store k1 n3
        have m3 : (w7.drew.setCell ⟨gg, j, none⟩ (.string tx)).cell? ⟨x.lb, d, none⟩ = some (.pointer (some ⟨b, 0, none⟩)) := cell_store cl n2
        go_region_held3 (fun W => W.cell? ⟨w.heap.size, 2, none⟩ = some (.slice (some ⟨x.lb, 0, none⟩) x.n x.n) ∧ W.cell? ⟨wr.heap.size, 0, none⟩ = some (.int .i64 (d : Int)) ∧ W.cell? ⟨wr.heap.size, 1, none⟩ = some (.int .i64 (a : Int)) ∧ W.cell? ⟨x.lb, d, none⟩ = some (.pointer (some ⟨b, 0, none⟩)))
          (first | exact ⟨x2, k0, k1, cl⟩ | exact ⟨m2, m0, m1, m3⟩)
          (first | (go_at_call 32; refine HRD.out.mono ?_; rintro e w8 ⟨rfl, rfl⟩))
        all_goals go_wp2
        go_roundw
        case rel =>
          have hd7 : Below w7.heap.size w7 w7.drew := (Below.refl _ w7).drew
          refine ⟨j + 1, by omega, by go_num, ?_, HB7.out.drew.setCell (p := ⟨gg, j, none⟩) (Nat.le_refl _) _⟩
          rw [← rawTo_set _ _ _ _ _ hlt, HRA.out]
          exact (HO7.out.below hd7).set j hlt tx
        case measure => simp [intOf]; omega
    · obtain rfl : j = m := by omega
      go_wp2
      go_ret2
      refine ⟨_, rfl, ?_, HB4.out.trans (HB.out.mono HG.out)⟩
      have := HO.out
      rw [rawTo_all _ _ _ _ HM.out] at this
      exact this
end
end Go.Proofs.Ytlhnmcopioeboaa

/- settle. -/
namespace Go.Proofs.Ytlhnmcopioeboaa
set_option maxRecDepth 100000
open Go.RowKit Go.Maps

/-- The medium with one sector turned. -/
theorem DevIn.medSet {w : World} {b mb cb m : Nat} {hd : Nat → Nat × Nat} {S : Dv} {fp : Nat → Prop} (h : DevIn w b mb cb m hd S fp) (k : Nat) (hk : k < S.med.length) (x : Sec) (hx : x.length = 64) :
    DevIn (w.setCells mb (k * 64) (secCells x)) b mb cb m hd { S with med := S.med.set k x } fp := by
  obtain ⟨h1, h2⟩ := heap_setCells mb (secCells x) (k * 64) w
  have e : (S.med.set k x).length = S.med.length := List.length_set
  refine ⟨⟨by rw [e]; exact h.ok.n1, by rw [e]; exact h.ok.n2, fun i hi => h.ok.out i (by rw [← e]; exact hi), h.ok.left, h.ok.cnts⟩, ?_, ?_, h.map.same (h2 _ h.cmb), h.mle, fun i hi => (h.vers i hi).same (h2 _ (h.apart i hi)), h.inj, h.apart, h.fb, h.fm, h.fc, h.fv, fun j hj => by rw [h1]; exact h.lt j hj⟩
  · rw [h2 _ h.bm, h.blk]
    unfold dvCells
    rw [e]
  · have := h.med.setCells k hk x hx
    show Rows _ mb (S.med.set k x).length _
    rw [e]
    exact this

/-- What a crash leaves of a sector by a number. -/
def Dv.settle (S : Dv) (k : Nat) (n : Int) : Dv := { S with med := S.med.set k ((S.med.getD k [] :: S.since k).getD (n % ((S.since k).length + 1 : Int)).toNat []) }
theorem settle_zero {S : Dv} {k : Nat} {n : Int} (hk : k < S.med.length) (h : n % ((S.since k).length + 1 : Int) = 0) : S.settle k n = S := by
  unfold Dv.settle
  rw [h]
  cases S with | mk med since lost fused left cnt =>
  simp only at hk ⊢
  congr 1
  rw [show (0 : Int).toNat = 0 from rfl, List.getD_cons_zero, List.getD_eq_getElem?_getD, List.getElem?_eq_getElem hk]
  simp

set_option maxHeartbeats 1000000 in
theorem settle_any (b mb cb m : Nat) (hd : Nat → Nat × Nat) (S : Dv) (fp : Nat → Prop) (k : Nat) (n : Int) (w : World) (h : DevIn w b mb cb m hd S fp) (hk : k < S.med.length) (hc : S.cnt ≤ 4294967296) :
    Calls Try.prog 45 #[.pointer (some ⟨b, 0, none⟩), .int .i64 (k : Int), .int .i64 n] w fun e w' => e = .returned (.tuple #[]) ∧ DevIn w' b mb cb m hd (S.settle k n) fp ∧ Turn fp w w' := by
  have hn2 := h.ok.n2
  have hlen := h.ok.cnts k
  have hlook := h.map.look (k : Int) (wfN k (by omega))
  have c0 := h.c0
  have c1 := h.c1
  have H := Lib.hid h
  have hrest := fun w => rest_any n ((S.since k).length + 1 : Int) w ⟨by omega, by omega⟩
  have hm0 := Int.emod_nonneg n (show ((S.since k).length + 1 : Int) ≠ 0 by omega)
  have hm1 := Int.emod_lt_of_pos n (show 0 < ((S.since k).length + 1 : Int) by omega)
  have Z0 := Lib.hid (@settle_zero S k n hk)
  have hlen2 : ∀ v : Hd, v = hdOf S hd k → ∃ a c, v.val = .slice a (S.since k).length c ∧ (S.since k ≠ [] → a = some ⟨(hd k).1, 0, none⟩ ∧ c = (hd k).2) := by
    rintro v rfl
    unfold hdOf
    by_cases e : S.since k = []
    · rw [if_pos (.inr (by simpa using e)), e]
      exact ⟨_, _, rfl, fun h => absurd rfl h⟩
    · rw [if_neg (by simpa using e)]
      exact ⟨_, _, rfl, fun _ => ⟨rfl, rfl⟩⟩
  obtain ⟨a0, c, hv, hac⟩ := hlen2 _ rfl
  rw [hv] at hlook
  clear hlen2 hv
  by_cases hz : n % ((S.since k).length + 1 : Int) = 0
  · have e := Z0.out hz
    rw [e]
    have hz2 : decide (0 < n % ((S.since k).length + 1 : Int)) = false := by rw [hz]; rfl
    clear h e Z0
    have HZ := Lib.hid hz
    clear hz
    generalize n % ((S.since k).length + 1 : Int) = r at *
    generalize (S.since k).length = q at *
    go_enter Try.func45, Try.ntmps45
    go_wp2_with fail
    refine (hrest _).mono ?_
    rintro e w1 ⟨rfl, rfl⟩
    go_wp2
    go_end0
    exact ⟨rfl, H.out, Turn.refl _ _⟩
  · clear Z0
    obtain ⟨j, hj⟩ : ∃ j : Nat, n % ((S.since k).length + 1 : Int) = (j : Int) + 1 := ⟨(n % ((S.since k).length + 1 : Int) - 1).toNat, by omega⟩
    have hjl : j < (S.since k).length := by omega
    have hne : S.since k ≠ [] := fun e => by rw [e] at hjl; simp at hjl
    obtain ⟨rfl, rfl⟩ := hac hne
    have hv := h.vers k hne
    have hcc := hv.le
    have hcm := hv.cap
    have hS : S.settle k n = { S with med := S.med.set k (S.since k)[j] } := by
      unfold Dv.settle
      rw [hj, show ((j : Int) + 1).toNat = j + 1 by omega, List.getD_cons_succ, List.getD_eq_getElem?_getD, List.getElem?_eq_getElem hjl]
      rfl
    rw [hS]
    have hx := hv.at_ j hjl
    have rv := (hv.range j hjl)
    have tm := h.med.there k hk
    have hD := h.drew.medSet k hk _ hx
    have cD := hD.c0
    have rD := World.rangeAt_setCells_apart (w := w.drew) rv mb (k * 64) (secCells (S.since k)[j]) (.inl (h.apart k hne))
    have tD := World.there_setCells (w := w.drew) tm mb (k * 64) (secCells (S.since k)[j])
    have T := Lib.hid ((Turn.refl fp w.drew).setCells h.fm (k * 64) (secCells (S.since k)[j]))
    have HD := Lib.hid hD
    have hlc : (secCells (S.since k)[j]).length = 64 := by rw [secCells_len, hx]
    have h1c := secCells_one (S.since k)[j]
    have hu := Try.underlying110
    have hi : (Try.prog.info? 110).map (·.size) = some (secCells (S.since k)[j]).length := by
      obtain ⟨i, z, hi, _, hs, _⟩ := info_sec
      rw [hi, hlc, ← hs]; rfl
    rw [hj] at hrest
    simp only [List.length_set] at cD
    clear hS hv hx hD h hz hj hm0 hm1 hac
    generalize (S.since k)[j] = x at *
    generalize ({ S with med := S.med.set k x } : Dv) = S' at *
    generalize secCells x = cs at *
    generalize (S.since k).length = q at *
    generalize S.med.length = N at *
    generalize (hd k).1 = g at *
    generalize (hd k).2 = c at *
    unfold maxLen at hcm
    go_enter Try.func45, Try.ntmps45
    go_wp2_with fail
    refine (hrest _).mono ?_
    rintro e w1 ⟨rfl, rfl⟩
    clear hrest
    go_wp2_with fail
    have q1 : IntKind.i64.wrap ((j : Int) + 1 - 1) = (j : Int) := by rw [show (j : Int) + 1 - 1 = j by omega]; exact IntWalk.i64_in _ (by omega)
    have q2 : IntKind.i64.wrap (j : Int) = (j : Int) := IntWalk.i64_in _ (by omega)
    have q3 : (j : Int) < (q : Int) := by omega
    have q4 : (k : Int) < (N : Int) := by omega
    go_region_held3 (fun w' => w'.cell? ⟨b, 0, none⟩ = some (.slice (some ⟨mb, 0, none⟩) N N) ∧ w'.rangeAt g (j * 64) cs ∧ w'.there mb (k * 64) 64) (first | exact ⟨c0, rv, tm⟩ | exact ⟨cD, rD, tD⟩) (first | fail)
    all_goals
      go_wp2
      go_end0
      exact ⟨rfl, HD.out, (Turn.of_below (Below.refl _ w).drew).trans T.out fun _ h => .inl h⟩
end Go.Proofs.Ytlhnmcopioeboaa

/- Flush. -/
namespace Go.Proofs.Ytlhnmcopioeboaa
set_option maxRecDepth 100000
open Go.RowKit Go.Maps

/-- What is on the map D: the heads of the versions of S. -/
structure HeadsD (D : DataW Unit) (S : Dv) (hd : Nat → Nat × Nat) : Prop where
  at_ : ∀ k, (Lit.int .i64 k).wf = true → D.atKey (.int .i64 k) .nil = (hdOf S hd k).dat
  has : ∀ k, (Lit.int .i64 k).wf = true → Maps.has D (.int .i64 k) = (hdOf S hd k).isSome

theorem head_some {S : Dv} {hd : Nat → Nat × Nat} {x : Int} (h : (hdOf S hd x).isSome = true) : ∃ k : Nat, x = k ∧ S.since k ≠ [] ∧ hdOf S hd x = some ((hd k).1, (S.since k).length, (hd k).2) := by
  unfold hdOf at h ⊢
  split at h
  · cases h
  · rename_i hn
    rw [if_neg hn]
    exact ⟨x.toNat, by omega, fun e => hn (.inr e), rfl⟩
theorem head_of {S : Dv} {hd : Nat → Nat × Nat} {k : Nat} (h : S.since k ≠ []) : hdOf S hd (k : Int) = some ((hd k).1, (S.since k).length, (hd k).2) := by
  unfold hdOf
  rw [if_neg (by simpa using h)]
  rfl
theorem head_none {S : Dv} {hd : Nat → Nat × Nat} {k : Nat} (h : S.since k = []) : hdOf S hd (k : Int) = none := by
  unfold hdOf
  rw [if_pos (.inr (by simpa using h))]
/-- The entry that has come. -/
theorem next_key {D : DataW Unit} {S : Dv} {hd : Nat → Nat × Nat} (H : HeadsD D S hd) {x : Int} {c : Hd} {kl : Lit} {y : DataW Unit × List MemPlace} (hkey : keyOf Try.prog 3 (.int .i64 x) = some kl) (hv : hdr c.val = some y) (hat : ∀ zd, D.atKey kl zd = y.1) :
    ∃ k : Nat, x = k ∧ S.since k ≠ [] ∧ c = some ((hd k).1, (S.since k).length, (hd k).2) ∧ kl = .int .i64 (k : Int) := by
  obtain ⟨x', hx, rfl, hwx⟩ := Maps.keyOf_int_inv Try.underlying3 hkey
  cases hx
  have h1 := Maps.has_true_of_atKey hat
  rw [H.has x hwx] at h1
  obtain ⟨k, rfl, hs, hh⟩ := head_some h1
  refine ⟨k, rfl, hs, ?_, rfl⟩
  rw [hdr_val] at hv
  cases hv
  have h2 := hat .nil
  rw [H.at_ _ hwx] at h2
  rw [← dat_inj h2, hh]

theorem sameKey_int (a b : Int) : (Lit.int .i64 a).sameKey (.int .i64 b) = decide (a = b) := by simp [Lit.sameKey]

/-- The medium on the way of a flush: what is left is as it was. -/
def flushL (S : Dv) (lf : Nat → Bool) : List Sec := (List.range S.med.length).map fun i => if lf i then S.med.getD i [] else S.now i
theorem flushL_len (S : Dv) (lf : Nat → Bool) : (flushL S lf).length = S.med.length := by simp [flushL]
theorem now_none {S : Dv} {i : Nat} (h : S.since i = []) : S.now i = S.med.getD i [] := by simp [Dv.now, h]
theorem flushL_start (S : Dv) (lf : Nat → Bool) (h : ∀ i, i < S.med.length → lf i = false → S.since i = []) : flushL S lf = S.med := by
  apply List.ext_getElem (flushL_len S lf)
  intro i h1 h2
  simp only [flushL, List.getElem_map, List.getElem_range]
  split
  · rw [List.getD_eq_getElem?_getD, List.getElem?_eq_getElem h2]; rfl
  · rename_i hl
    rw [now_none (h i h2 (by simpa using hl)), List.getD_eq_getElem?_getD, List.getElem?_eq_getElem h2]; rfl
theorem flushL_step (S : Dv) (lf lf' : Nat → Bool) (k : Nat) (hk : lf' k = false) (h : ∀ i, i ≠ k → lf' i = lf i) : (flushL S lf).set k (S.now k) = flushL S lf' := by
  apply List.ext_getElem (by simp [flushL])
  intro i h1 h2
  rw [List.getElem_set]
  split
  · rename_i e
    subst e
    simp [flushL, hk]
  · rename_i e
    simp only [flushL, List.getElem_map, List.getElem_range]
    rw [h i (fun e' => e e'.symm)]
/-- Behind a flush. -/
def Dv.flush (S : Dv) : Dv := { S with med := (List.range S.med.length).map S.now, since := fun _ => [], cnt := 0 }
theorem flushL_end (S : Dv) (lf : Nat → Bool) (h : ∀ i, lf i = false) : ({ S with med := flushL S lf } : Dv).bare = S.flush := by
  unfold Dv.bare Dv.flush flushL
  simp [h]
theorem flush_lost (b : Nat) (S : Dv) (fp : Nat → Prop) (w : World) (h : DevAt w b S fp) (hl : S.lost = true) :
    Calls Try.prog 40 #[.pointer (some ⟨b, 0, none⟩)] w fun e w' => e = .returned (.int .i64 6) ∧ w = w' := by
  have hL := lost_any b S fp w h
  rw [hl] at hL
  go_enter Try.func40, Try.ntmps40
  go_wp2_with fail
  refine hL.mono ?_
  rintro e w1 ⟨rfl, rfl⟩
  go_wp2
  go_ret
  exact ⟨rfl, rfl⟩
theorem flush_nil (w : World) :
    Calls Try.prog 40 #[.pointer none] w fun e w' => e = .returned (.int .i64 6) ∧ w = w' := by
  go_enter Try.func40, Try.ntmps40
  go_wp2_with fail
  refine (lost_nil _).mono ?_
  rintro e w1 ⟨rfl, rfl⟩
  go_wp2
  go_ret
  exact ⟨rfl, rfl⟩
theorem flush_fuse (b : Nat) (S : Dv) (fp : Nat → Prop) (w : World) (h : DevAt w b S fp) (hl : S.lost = false) (hp : S.pass = false) :
    Calls Try.prog 40 #[.pointer (some ⟨b, 0, none⟩)] w fun e w' => e = .returned (.int .i64 6) ∧ Did fp b S w w' := by
  have hL := lost_any b S fp w h
  rw [hl] at hL
  obtain ⟨mb, cb, m, hd, h⟩ := h
  have hP := pass_any b mb cb m hd S fp w h
  rw [hp, spent_not hp] at hP
  go_enter Try.func40, Try.ntmps40
  go_wp2_with fail
  refine hL.mono ?_
  rintro e w1 ⟨rfl, rfl⟩
  go_wp2_with fail
  refine hP.mono ?_
  rintro e w1 ⟨rfl, h1, t1, z1⟩
  have Z1 := Lib.hid z1
  clear z1
  go_wp2
  go_ret
  exact ⟨rfl, Did.of h1 t1⟩
end Go.Proofs.Ytlhnmcopioeboaa

/- Flush: the walk. -/
namespace Go.Proofs.Ytlhnmcopioeboaa
set_option maxRecDepth 100000
open Go.RowKit Go.Maps

def FlushRel (w : World) (b mb cb m r : Nat) (hd : Nat → Nat × Nat) (S : Dv) (fp : Nat → Prop) (D : DataW Unit) (wr : World) : Prop :=
  ∃ left cnt, wr.ranges Try.prog 3 hdr cb r m D left cnt ∧ DevIn wr b mb cb m hd { S with med := flushL S fun i => left (.int .i64 (i : Int)) } fp ∧ Turn fp w wr

theorem grown_setCells (w : World) (b o : Nat) (vs : List Value) : w.grownBy (w.drew.setCells b o vs) (some b) := by
  obtain ⟨h1, h2⟩ := heap_setCells b vs o w.drew
  obtain ⟨e1, e2, e3⟩ := env_setCells b vs o w.drew
  exact ⟨e1, e2, e3, by rw [h1]; exact Nat.le_refl _, fun k _ hn => h2 k (fun e => hn (by rw [e]))⟩
theorem iter_ne {w : World} {cb r m g c : Nat} {D : DataW Unit} {left : Lit → Bool} {cnt : Nat} {l : List Sec} (h : w.ranges Try.prog 3 hdr cb r m D left cnt) (hg : Rows w g c l) : r ≠ g := by
  intro e
  obtain ⟨_, _, _, _, _, _, _, _, _, hr, _⟩ := h
  obtain ⟨cur, h1, _⟩ := hg.shape
  rw [e, h1] at hr
  cases hr
theorem invK : ∀ key kl, keyOf Try.prog 3 key = some kl → ∃ x, key = Value.int .i64 x := fun key kl hkey => by
  obtain ⟨x, rfl, _⟩ := Maps.keyOf_int_inv Try.underlying3 hkey; exact ⟨x, rfl⟩
theorem invV : ∀ v y, hdr v = some y → ∃ c : Hd, v = c.val := fun v y hv => by
  obtain ⟨c, rfl, _⟩ := hdr_inv hv; exact ⟨c, rfl⟩

set_option maxHeartbeats 1000000 in
theorem flush_ok (b : Nat) (S0 : Dv) (fp : Nat → Prop) (w : World) (h : DevAt w b S0 fp) (hl : S0.lost = false) (hp : S0.pass = true) (hc : S0.cnt ≤ 4294967296) :
    Calls Try.prog 40 #[.pointer (some ⟨b, 0, none⟩)] w fun e w' => e = .returned (.int .i64 0) ∧ Did fp b S0.spent.flush w w' := by
  have hL := lost_any b S0 fp w h
  rw [hl] at hL
  obtain ⟨mb, cb, m, hd, h⟩ := h
  have hP := pass_any b mb cb m hd S0 fp w h
  rw [hp] at hP
  have hc' : S0.spent.cnt ≤ 4294967296 := hc
  clear h hc
  generalize S0.spent = S at *
  go_enter Try.func40, Try.ntmps40
  go_wp2_with fail
  refine hL.mono ?_
  rintro e w1 ⟨rfl, rfl⟩
  go_wp2_with fail
  refine hP.mono ?_
  rintro e w1 ⟨rfl, h1, t1, z1⟩
  clear z1 hP hL
  have c1 := h1.c1
  have HM := h1.map
  obtain ⟨D, hown, hat0, hhas0⟩ := HM
  have HD : HeadsD D S hd := ⟨hat0, hhas0⟩
  clear hat0 hhas0
  have H1 := Lib.hid h1
  clear h1
  go_wp2_with (first | (at_range; refine wpList_range_own _ rfl _ 92 rfl 3 91 law Try.underlying92 _ cb m D rfl hown ?_; intro w0 hrg0 hg0 hs0))
  go_frame
  have hlt : Hid (∀ k, fp k → k < w1.heap.size) := H1.out.lt
  have hn2 := H1.out.ok.n2
  have hrel0 : FlushRel w b mb cb m w1.heap.size hd S fp D w0 := by
    refine ⟨_, _, hrg0, ?_, t1.trans (grown_turn (fp := fp) hg0 fun _ e => by cases e) fun _ h => .inl h⟩
    rw [flushL_start S _ fun i hi hf => ?_]
    · exact H1.out.same hg0.size fun k hk => hg0.block k (hlt.out k hk) (by simp)
    · rw [HD.has _ (wfN i (by omega))] at hf
      by_cases e : S.since i = []
      · exact e
      · rw [head_of e] at hf; cases hf
  have t1s := t1.size
  clear hrg0 hg0 hs0 hown t1 c1 H1
  have hrs : Hid (w.heap.size ≤ w1.heap.size) := t1s
  generalize w1.heap.size = r at *
  go_loopw [3] (fun _ wr => FlushRel w b mb cb m r hd S fp D wr) (fun _ wr => wr.rangeLeft cb r)
  case atStart => exact hrel0
  case round =>
    obtain ⟨left, cnt, hrg, hdev, ht⟩ := hrel
    go_wp2_with (first
      | (at_next; refine wpList_next_ranges _ rfl _ rfl 3 law hdr (Value.int .i64) Hd.val invK invV cb r m D left cnt rfl hrg ?_ ?_))
    · intro _ hl0
      have e := flushL_end S (fun i => left (.int .i64 (i : Int))) fun i => hl0 _
      have c1 := hdev.c1
      go_wp2_with (obtain ⟨w', hr, h3, h4⟩ := wipe_any hdev _; refine wpList_clear _ rfl _ _ rfl _ rfl _ hr ?_)
      go_ret
      rw [e] at h3
      exact ⟨rfl, Did.of h3 (ht.trans h4 fun _ h => .inl h)⟩
    · intro x c kl yd yp w2 cnt2 hkey hlk hv hat hrg2 hlt2 hg2 hs2 hen
      obtain ⟨k, rfl, hsk, rfl, rfl⟩ := next_key HD hkey hv hat
      have hd2 := hdev.same hg2.size fun q hq => hg2.block q (hdev.lt q hq) (fun e => by cases e; exact Nat.lt_irrefl _ (hlt.out _ hq))
      have t2 : Turn fp w w2 := ht.trans (fp' := fun q => q = r) ⟨hg2.os, hg2.tape, hg2.output, hg2.size, fun q hq hn => hg2.block q hq (fun e => by cases e; exact hn rfl)⟩ fun q hq => by subst hq; exact .inr hrs.out
      have HLT := Lib.hid hlt2
      have HL0 := Lib.hid hrg.left_eq
      have hk : k < S.med.length := by
        rcases Nat.lt_or_ge k S.med.length with h | h
        · exact h
        · exact absurd (hdev.ok.out k (by show (flushL S _).length ≤ k; rw [flushL_len]; exact h)) hsk
      have hvr := hd2.vers k hsk
      have hcc := hvr.le
      have hcm := hvr.cap
      have hlc := hdev.ok.cnts k
      simp only at hvr hcc hlc
      obtain ⟨j, hj⟩ : ∃ j, (S.since k).length = j + 1 := ⟨(S.since k).length - 1, by have := List.length_pos_iff.2 hsk; omega⟩
      have hjl : j < (S.since k).length := by omega
      have hnow : (S.since k)[j] = S.now k := by
        unfold Dv.now
        rw [List.getLastD_eq_getLast?, List.getLast?_eq_getElem?, List.getElem?_eq_getElem (by omega)]
        simp [hj]
      have hx := hvr.at_ j hjl
      have rv := hvr.range j hjl
      rw [hnow] at hx rv
      have tm := hd2.med.there k (by rw [flushL_len]; exact hk)
      have hD := hd2.drew.medSet k (by rw [flushL_len]; exact hk) _ hx
      have c0 := hd2.c0
      have cD := hD.c0
      have rD := World.rangeAt_setCells_apart (w := w2.drew) rv mb (k * 64) (secCells (S.now k)) (.inl (hd2.apart k hsk))
      have tD := World.there_setCells (w := w2.drew) tm mb (k * 64) (secCells (S.now k))
      have T := Lib.hid ((t2.trans (Turn.of_below (fp := fp) (Below.refl _ w2).drew) fun _ h => .inl h).setCells hd2.fm (k * 64) (secCells (S.now k)))
      have HR := Lib.hid (hrg2.kept (grown_setCells w2 mb (k * 64) (secCells (S.now k))) (by intro e; cases e; exact hd2.cmb rfl) (by intro e; cases e; exact iter_ne hrg2 hd2.med rfl))
      have e3 : (flushL S fun i => left (.int .i64 (i : Int))).set k (S.now k) = flushL S fun i => left (.int .i64 (i : Int)) && !(Lit.int .i64 (i : Int)).sameKey (.int .i64 (k : Int)) :=
        flushL_step S _ _ k (by simp [sameKey_int]) fun i hi => by
          have : ¬ ((i : Int) = (k : Int)) := by omega
          simp [sameKey_int, this]
      simp only at hD
      rw [e3] at hD
      have HDv := Lib.hid hD
      have h1c := secCells_one (S.now k)
      have hl64 : (secCells (S.now k)).length = 64 := by rw [secCells_len, hx]
      have hu := Try.underlying110
      have hi : (Try.prog.info? 110).map (·.size) = some (secCells (S.now k)).length := by
        obtain ⟨i, z, hi, _, hs, _⟩ := info_sec
        rw [hi, hl64, ← hs]; rfl
      simp only [List.length_set, flushL_len] at cD c0
      simp only [Hd.val, hj] at hen ⊢
      rw [hj] at hcc hlc
      clear e3 hD hx hnow hvr hdev ht hg2 hs2 hrg hrg2 hv hat hkey hlk t2 hd2 hj hjl hlt2
      generalize secCells (S.now k) = cs at *
      generalize S.med.length = N at *
      generalize (hd k).1 = g at *
      generalize (hd k).2 = c at *
      unfold maxLen at hcm
      go_wp2_with fail
      have q1 : IntKind.i64.wrap ((j : Int) + 1 - 1) = (j : Int) := by rw [show (j : Int) + 1 - 1 = j by omega]; exact IntWalk.i64_in _ (by omega)
      have q2 : IntKind.i64.wrap (j : Int) = (j : Int) := IntWalk.i64_in _ (by omega)
      have q3 : (j : Int) < ((j + 1 : Nat) : Int) := by omega
      have q4 : (k : Int) < (N : Int) := by omega
      have q5 : (j : Int) < (j : Int) + 1 := by omega
      go_region_held3 (fun w' => w'.cell? ⟨b, 0, none⟩ = some (.slice (some ⟨mb, 0, none⟩) N N) ∧ w'.rangeAt g (j * 64) cs ∧ w'.there mb (k * 64) 64) (first | exact ⟨c0, rv, tm⟩ | exact ⟨cD, rD, tD⟩) (first | fail)
      all_goals
        go_wp2
        go_roundw
        case rel => exact ⟨_, cnt2, HR.out, HDv.out, T.out⟩
        case measure => rw [HR.out.left_eq, HL0.out]; exact HLT.out
end Go.Proofs.Ytlhnmcopioeboaa

/- vdev.Flush. -/
namespace Go.Proofs.Ytlhnmcopioeboaa
set_option maxRecDepth 100000
open Go.RowKit Go.Maps M

/-- The devices, of which the first j were flushed where they are here. -/
def flTo (ds : Nat → Dv) (aw : Nat → Bool) (j : Nat) (i : Nat) : Dv := if i < j ∧ hereB ds aw i = true then (ds i).flush else ds i
/-- How many of the first j aren't here. -/
def goneN (hr : Nat → Bool) : Nat → Nat
  | 0 => 0
  | j + 1 => if hr j then goneN hr j else goneN hr j + 1
theorem flTo_zero (ds : Nat → Dv) (aw : Nat → Bool) : flTo ds aw 0 = ds := by
  funext i
  unfold flTo
  simp
theorem flTo_yes (ds : Nat → Dv) (aw : Nat → Bool) (j : Nat) (h : hereB ds aw j = true) : upd (flTo ds aw j) j ((flTo ds aw j j).flush) = flTo ds aw (j + 1) := by
  funext i
  unfold upd flTo
  by_cases e : i = j
  · subst e; simp [h]
  · rw [if_neg e]
    by_cases h2 : i < j
    · simp [h2, show i < j + 1 by omega]
    · simp [h2, show ¬ i < j + 1 by omega]
theorem flTo_no (ds : Nat → Dv) (aw : Nat → Bool) (j : Nat) (h : hereB ds aw j = false) : flTo ds aw j = flTo ds aw (j + 1) := by
  funext i
  unfold flTo
  by_cases e : i = j
  · subst e; simp [h]
  · by_cases h2 : i < j
    · simp [h2, show i < j + 1 by omega]
    · simp [h2, show ¬ i < j + 1 by omega]
theorem flTo_here (ds : Nat → Dv) (aw : Nat → Bool) (j : Nat) : hereB (flTo ds aw j) aw = hereB ds aw := by
  funext i
  have : (flTo ds aw j i).lost = (ds i).lost := by unfold flTo; split <;> rfl
  unfold hereB
  rw [this]
theorem goneN_le (hr : Nat → Bool) (j : Nat) : goneN hr j ≤ j := by
  induction j with
  | zero => exact Nat.le_refl _
  | succ j ih => rw [goneN]; split <;> omega
/-- A set of as many numbers as are gone, all of them below j. -/
structure Gone (hr : Nat → Bool) (j : Nat) (S : List Nat) : Prop where
  len : S.length = goneN hr j
  lt : ∀ i ∈ S, i < j
theorem Gone.yes {hr : Nat → Bool} {j : Nat} {S : List Nat} (h : Gone hr j S) (hj : hr j = true) : Gone hr (j + 1) S := ⟨by rw [h.len, goneN, hj]; rfl, fun i hi => by have := h.lt i hi; omega⟩
theorem Gone.no {hr : Nat → Bool} {j : Nat} {S : List Nat} (h : Gone hr j S) (hj : hr j = false) : Gone hr (j + 1) (putN S j) := by
  have hn : j ∉ S := fun e => by have := h.lt j e; omega
  unfold putN
  rw [if_neg hn]
  refine ⟨by rw [List.length_append, h.len, goneN, hj]; rfl, fun i hi => ?_⟩
  rcases List.mem_append.1 hi with e | e
  · have := h.lt i e; omega
  · rw [List.mem_singleton.1 e]; omega

section
variable {X : Nat → Prop} {B : Nat} {w : World} {x : Px} {l : List (Int × Int)} {ds : Nat → Dv} {aw : Nat → Bool} {K : Nat} {P : World → Prop}
theorem fl_any (h : StX X B w x l ds aw K P) {i : Nat} (hi : i < x.n) (hl : (ds i).lost = false) (hK : K < 4000000000) :
    ∃ b, w.cell? ⟨x.lb, i, none⟩ = some (.pointer (some ⟨b, 0, none⟩)) ∧ ∀ w4, Below w.heap.size w w4 → Calls Try.prog 40 #[.pointer (some ⟨b, 0, none⟩)] w4 fun e w' =>
      e = .returned (.int .i64 0) ∧ StX X B w' x l (upd ds i (ds i).flush) aw K P ∧ Below B w4 w' ∧ w'.heap[x.lb]? = w4.heap[x.lb]? ∧ ∀ k, X k → w'.heap[k]? = w4.heap[k]? := by
  obtain ⟨b, f, hb, _⟩ := h.at_ hi
  refine ⟨b, hb, fun w4 b4 => ?_⟩
  have h4 := h.below b4
  obtain ⟨b', f', hb', hd', hdid⟩ := h4.did hi
  have hlt := World.block_lt_of_cell? w _ hb
  have e := (b4.cell (p := ⟨x.lb, i, none⟩) hlt).trans hb
  rw [hb'] at e
  simp only [Option.some.injEq, Value.pointer.injEq, Addr.mk.injEq, and_true] at e
  subst e
  have hg := h.good hi
  obtain ⟨e1, e2⟩ := spent_self hg.fused
  have hcnt := hg.cnt
  have hw := flush_ok b' (ds i) f' w4 hd' hl e2 (by omega)
  rw [e1] at hw
  refine hw.mono fun e w' ⟨he, hd⟩ => ⟨he, hdid _ w' K hd ⟨hg.fused, ?_, Nat.zero_le _⟩ (Nat.le_refl _)⟩
  have := hg.len
  show (((List.range (ds i).med.length).map (ds i).now).length : Int) = x.sc
  rw [List.length_map, List.length_range]
  exact this
def errF (N n : Nat) : Int := if N = n then 6 else 0
end
section
variable {B : Nat} {w : World} {x : Px} {l : List (Int × Int)} {ds : Nat → Dv} {aw : Nat → Bool} {K : Nat} {P : World → Prop}
set_option maxHeartbeats 4000000 in
theorem flush8_any (h : St B w x l ds aw K P) (hK : K < 4000000000) :
    Calls Try.prog 16 #[x.val] w fun e w' => e = .returned (.tuple #[.int .i64 (goneN (hereB ds aw) x.n : Int), .int .i64 (errF (goneN (hereB ds aw) x.n) x.n)]) ∧ St B w' x l (flTo ds aw x.n) aw K P ∧ Below B w w' := by
  obtain ⟨hn1, h32⟩ := h.right.1.devs h.right.2
  have hBw := h.lt.2
  have hb := boxed w (.cells #[.slice x.ga x.gn x.gc, .int .i64 x.sc, .slice (some ⟨x.lb, 0, none⟩) x.n x.n, .slice (some ⟨x.ab, 0, none⟩) x.n x.n] 32)
  have H1 := Lib.hid (h.add hb (BoxX.new w x _ (Nat.le_refl _) _))
  have HB1 := Lib.hid hb
  have HR := Lib.hid (right8_any H1.out)
  have hmm := @run_makeMap Try.prog
  unfold Px.val at HR ⊢
  clear h hb
  go_enter Try.func16, Try.ntmps16
  go_wp2_with fail
  refine HR.out.mono ?_
  rintro e w3 ⟨rfl, b3⟩
  have HS3 := Lib.hid (H1.out.below b3)
  have HB3 := Lib.hid (next HB1.out b3)
  clear b3 H1 HB1 HR
  have HMB := Lib.hid (SMap.made w3)
  have HST5 : Hid (StX (fun k => k = w3.heap.size) B (w3.alloc (.map #[] 0)) x l ds aw K (fun w' => P w' ∧ BoxX x w.heap.size w')) := Lib.hid (HS3.out.turnX (Turn.of_below (boxed w3 _)) (fun k hk => .inr (by omega)) (fun k hk => by simp; omega) HS3.out.lt.2)
  have HB5 := Lib.hid ((HB3.out.mono hBw).trans ((boxed w3 (.map #[] 0)).mono (Nat.le_trans hBw HB3.out.size)))
  obtain ⟨_, f0, f1, f2, f3⟩ := HST5.out.out
  go_wp2_with fail
  generalize w3.alloc (.map #[] 0) = w5 at *
  generalize w3.heap.size = mb at *
  clear HS3 HB3
  go_loopw [14] (fun i wr => ∃ (j : Nat) (S : List Nat), j ≤ x.n ∧ i = .int .i64 j ∧ StX (fun k => k = mb) B wr x l (flTo ds aw j) aw K (fun w' => P w' ∧ BoxX x w.heap.size w') ∧ SMap wr mb j S ∧ Gone (hereB ds aw) j S ∧ Below B w wr) (fun i _ => x.n - (intOf i).toNat)
  case atStart => exact ⟨0, [], Nat.zero_le _, rfl, by rw [flTo_zero]; exact HST5.out, HMB.out, ⟨rfl, fun i hi => nomatch hi⟩, HB5.out⟩
  case round =>
    obtain ⟨j, S, hj, rfl, hst, hsm, hgo, hbw⟩ := hrel
    have HS := Lib.hid hst
    have HSM := Lib.hid hsm
    have HGO := Lib.hid hgo
    have HBW := Lib.hid hbw
    clear hst hsm hbw hgo f0 f1 f2 f3
    obtain ⟨_, x0, x1, x2, x3⟩ := HS.out.out
    by_cases hlt : j < x.n
    · have HH := Lib.hid (here_any HS.out j hlt)
      rw [flTo_here] at HH
      unfold Px.val at HH
      cases hh : hereB ds aw j with
      | true =>
        rw [hh] at HH
        have hl : (flTo ds aw j j).lost = false := by
          unfold hereB at hh
          simp at hh
          unfold flTo
          simp
          exact hh.2
        obtain ⟨b, cl, hF⟩ := fl_any HS.out hlt hl hK
        have HF := Lib.hid hF
        have HHH := Lib.hid hh
        clear hF hl hh
        go_wp2_with fail
        refine HH.out.mono ?_
        rintro e w7 ⟨rfl, b7⟩
        go_wp2_with fail
        refine (HF.out w7 b7).mono ?_
        rintro e w8 ⟨rfl, h8, b8, _, hX8⟩
        rw [flTo_yes _ _ _ HHH.out] at h8
        have HS8 := Lib.hid h8
        have HX8 := Lib.hid ((hX8 mb rfl).trans (b7.block mb HSM.out.lt))
        have HB8 := Lib.hid ((HBW.out.trans (b7.mono HS.out.lt.2)).trans b8)
        clear h8 b8 b7 hX8 x0 x1 x2 x3 cl
        go_wp2
        go_roundw
        case rel =>
          obtain ⟨h1, D, h2, h3⟩ := HSM.out.same HX8.out
          exact ⟨j + 1, S, by omega, by go_num, HS8.out, ⟨h1, D, h2.mono (Nat.le_succ _), h3⟩, HGO.out.yes HHH.out, HB8.out⟩
        case measure => simp [intOf]; omega
      | false =>
        rw [hh] at HH
        have HHH := Lib.hid hh
        clear hh
        obtain ⟨b, f, cl, _⟩ := HS.out.at_ hlt
        go_wp2_with fail
        refine HH.out.mono ?_
        rintro e w7 ⟨rfl, b7⟩
        have HS7 := Lib.hid (HS.out.below b7)
        have HSM7 := Lib.hid (HSM.out.same (b7.block mb HSM.out.lt))
        have HB7 := Lib.hid (HBW.out.trans (b7.mono HS.out.lt.2))
        obtain ⟨w8, hr8, hs8, ht8⟩ := SMap.put HSM7.out j (by omega) (by unfold maxLen; omega)
        have HS8 := Lib.hid hs8
        have HT8 := Lib.hid ht8
        clear hs8 ht8 x0 x1 x2 x3 cl b7
        go_wp2
        go_roundw
        case rel =>
          have tX : Turn (fun k => k = mb) w7 w8 := (Turn.refl _ w7).mapTurned rfl HT8.out
          refine ⟨j + 1, _, by omega, by go_num, ?_, HS8.out, HGO.out.no HHH.out, HB7.out.trans (tX.below (fun k hk => ?_) HS7.out.lt.2)⟩
          · rw [← flTo_no _ _ _ HHH.out]
            exact HS7.out.turnX tX (fun k hk => .inl hk) (fun k hk => by rw [hk]; exact HS8.out.lt) HS7.out.lt.2
          · rw [hk]
            obtain ⟨_, _, fp, F, bs, hF⟩ := HS7.out
            exact hF.ge mb (hF.xfp mb rfl)
        case measure => simp [intOf]; omega
    · obtain rfl : j = x.n := by omega
      have HN := Lib.hid HGO.out.len
      obtain ⟨N, hN⟩ : ∃ N, S.length = N := ⟨_, rfl⟩
      rw [hN] at HN
      have hlen := HSM.out.len
      have hNle := HSM.out.le
      rw [hN] at hlen hNle
      have HFIN : Hid (St B wr x l (flTo ds aw x.n) aw K P ∧ Below B w wr) := Lib.hid ⟨(HS.out.mono fun w h => h.1).sub (fun _ h => h.elim), HBW.out⟩
      by_cases hcmp : N = x.n
      · have d1 : ((N : Int) == (x.n : Int)) = true := by rw [beq_iff_eq]; omega
        have HCM := Lib.hid hcmp
        clear hcmp
        go_wp2
        go_ret2
        refine ⟨?_, HFIN.out⟩
        rw [← HN.out, errF, if_pos HCM.out]
        rfl
      · have d1 : ((N : Int) == (x.n : Int)) = false := by rw [beq_eq_false_iff_ne]; omega
        have HCM := Lib.hid hcmp
        clear hcmp
        go_wp2
        go_ret2
        refine ⟨?_, HFIN.out⟩
        rw [← HN.out, errF, if_neg HCM.out]
        rfl
end
end Go.Proofs.Ytlhnmcopioeboaa

/- What devices read as behind writing, flushing and a crash (no program is named here). -/
namespace Go.Proofs.Ytlhnmcopioeboaa
set_option maxRecDepth 100000
open Go.RowKit Go.Maps M

theorem put_now (S : Dv) (a : Nat) (x : Sec) (b : Nat) : (S.put a x).now b = if b = a then x else S.now b := by
  unfold Dv.now Dv.put
  by_cases e : b = a
  · subst e; simp
  · simp [e]
theorem put_med (S : Dv) (a : Nat) (x : Sec) : (S.put a x).med = S.med ∧ (S.put a x).lost = S.lost := ⟨rfl, rfl⟩
/-- What a sector reads as, behind a column's putting. -/
theorem putD_now (ds : Nat → Dv) (aw : Nat → Bool) (d a : Nat) (s : ByteArray) (d' a' : Nat) : (putD ds aw d a s d').now a' = if hereB ds aw d = true ∧ d' = d ∧ a' = a then s.data.toList else (ds d').now a' := by
  unfold putD
  by_cases h : hereB ds aw d = true
  · rw [if_pos h]
    unfold upd
    by_cases e : d' = d
    · subst e
      rw [if_pos rfl, put_now]
      by_cases e2 : a' = a
      · simp [h, e2]
      · simp [e2]
    · rw [if_neg e]; simp [e]
  · rw [if_neg h]; simp [h]
/-- No two of the columns are the same sector. -/
def ApartN (L : List C) : Prop := ∀ i j, i < L.length → j < L.length → devN L i = devN L j → atN L i = atN L j → i = j
theorem Blk.apartN {l : List (Int × Int)} {sc : Int} {k t z : Nat} (h : Blk l sc k t z) {n : Nat} (hn : devsL l sc = (n : Int)) : ApartN (colsOf l k t z) := by
  have hp := h.puts (s := ⟨(List.replicate (z * 64) (0 : UInt8)).toArray⟩) (by simp [ByteArray.size]) hn
  intro i j hi hj e1 e2
  rcases Nat.lt_trichotomy i j with h1 | h1 | h1
  · exact absurd ⟨by rw [(hp.dev j hj).1, (hp.dev i hi).1, e1], by rw [(hp.at_ j hj).1, (hp.at_ i hi).1, e2]⟩ (h.laid.apart i j hi hj h1)
  · exact h1
  · exact absurd ⟨by rw [(hp.dev j hj).1, (hp.dev i hi).1, e1], by rw [(hp.at_ j hj).1, (hp.at_ i hi).1, e2]⟩ (h.laid.apart j i hj hi h1)
/-- What a sector of a column reads as, behind m columns' writing. -/
theorem wrTo_now {L : List C} (hA : ApartN L) (ds : Nat → Dv) (aw : Nat → Bool) (E : List ByteArray) : ∀ m, m ≤ L.length → ∀ j, j < L.length → (wrTo ds aw L E m (devN L j)).now (atN L j) = if j < m ∧ hereB ds aw (devN L j) = true then (E.getD j ⟨#[]⟩).data.toList else (ds (devN L j)).now (atN L j) := by
  intro m
  induction m with
  | zero => intro _ j _; simp [wrTo]
  | succ m ih =>
    intro hm j hj
    rw [wrTo, putD_now, wrTo_here, ih (by omega) j hj]
    by_cases e : j = m
    · subst e
      by_cases h : hereB ds aw (devN L j) = true
      · simp [h]
      · simp [h]
    · have hne : ¬ (hereB ds aw (devN L m) = true ∧ devN L j = devN L m ∧ atN L j = atN L m) := fun h => e (hA j m hj (by omega) h.2.1 h.2.2)
      rw [if_neg hne]
      by_cases h2 : j < m
      · simp [h2, show j < m + 1 by omega]
      · simp [h2, show ¬ j < m + 1 by omega]
theorem strOf_data (s : ByteArray) : strOf s.data.toList = s := by
  unfold strOf
  cases s with
  | mk d => simp
/-- All devices are here: what was written is read raw as it is encoded. -/
theorem raw_wrote {L : List C} (hA : ApartN L) (ds : Nat → Dv) (aw : Nat → Bool) (E : List ByteArray) (hE : E.length = L.length) (hh : ∀ j, j < L.length → hereB ds aw (devN L j) = true) : rawL (wrTo ds aw L E L.length) aw L = E := by
  apply List.ext_getElem?
  intro j
  by_cases hj : j < L.length
  · rw [rawL, List.getElem?_map, List.getElem?_range hj, List.getElem?_eq_getElem (by omega)]
    simp only [Option.map_some, Option.some.injEq]
    rw [rawAt, wrTo_here, hh j hj, if_pos rfl, wrTo_now hA _ _ _ _ (Nat.le_refl _) j hj, if_pos ⟨hj, hh j hj⟩, strOf_data, List.getD_eq_getElem?_getD, List.getElem?_eq_getElem (by omega)]
    rfl
  · rw [List.getElem?_eq_none (by rw [rawL_len]; omega), List.getElem?_eq_none (by omega)]
/-- None failed. -/
theorem faTo_all {hr : Nat → Bool} {L : List C} : ∀ m, (∀ j, j < m → hr (devN L j) = true) → faTo hr L m = [] := by
  intro m
  induction m with
  | zero => intro _; rfl
  | succ m ih =>
    intro h
    rw [faTo, h m (by omega), if_pos rfl]
    exact ih fun j hj => h j (by omega)
theorem goneN_all {hr : Nat → Bool} : ∀ m, (∀ j, j < m → hr j = true) → goneN hr m = 0 := by
  intro m
  induction m with
  | zero => intro _; rfl
  | succ m ih =>
    intro h
    rw [goneN, h m (by omega), if_pos rfl]
    exact ih fun j hj => h j (by omega)
end Go.Proofs.Ytlhnmcopioeboaa

/- Contracts of the kit's shelf, laid at this seat's dump (plain mode of the kit's own script). -/
namespace Go.Proofs
open Go.Shelf
def Try.lays189_ren : Go.Shelf.Ren := ⟨fun | 189 => 63 | 125 => 74 | 257 => 73 | 128 => 86 | 129 => 87 | 294 => 77 | 295 => 78 | 296 => 79 | 297 => 80 | 298 => 81 | 299 => 82 | 216 => 83 | 300 => 84 | 301 => 85 | 328 => 88 | 329 => 89 | 330 => 90 | 331 => 91 | 332 => 92 | 215 => 93 | 343 => 94 | n => n, fun | 28 => 27 | 3 => 3 | 46 => 119 | 0 => 0 | 51 => 132 | 53 => 134 | 4 => 4 | 183 => 124 | 182 => 123 | 131 => 129 | 5 => 5 | 9 => 9 | 218 => 135 | 222 => 139 | 228 => 142 | 229 => 143 | n => n, fun | n => n⟩
theorem Try.lays189 : Go.Proofs.Lays.n189 Try.prog Try.lays189_ren := {
  mixed := by kernel_rfl
  f125 := Try.func74.trans (congrArg some (by kernel_rfl))
  f128 := Try.func86.trans (congrArg some (by kernel_rfl))
  f129 := Try.func87.trans (congrArg some (by kernel_rfl))
  f189 := Try.func63.trans (congrArg some (by kernel_rfl))
  f215 := Try.func93.trans (congrArg some (by kernel_rfl))
  f216 := Try.func83.trans (congrArg some (by kernel_rfl))
  f257 := Try.func73.trans (congrArg some (by kernel_rfl))
  f294 := Try.func77.trans (congrArg some (by kernel_rfl))
  f295 := Try.func78.trans (congrArg some (by kernel_rfl))
  f296 := Try.func79.trans (congrArg some (by kernel_rfl))
  f297 := Try.func80.trans (congrArg some (by kernel_rfl))
  f298 := Try.func81.trans (congrArg some (by kernel_rfl))
  f299 := Try.func82.trans (congrArg some (by kernel_rfl))
  f300 := Try.func84.trans (congrArg some (by kernel_rfl))
  f301 := Try.func85.trans (congrArg some (by kernel_rfl))
  f328 := Try.func88.trans (congrArg some (by kernel_rfl))
  f329 := Try.func89.trans (congrArg some (by kernel_rfl))
  f330 := Try.func90.trans (congrArg some (by kernel_rfl))
  f331 := Try.func91.trans (congrArg some (by kernel_rfl))
  f332 := Try.func92.trans (congrArg some (by kernel_rfl))
  f343 := Try.func94.trans (congrArg some (by kernel_rfl))
  t0 := Try.underlying0
  a0 := Try.isAgg0
  z0 := Try.sizeOf0
  v0 := Try.zeroValue0
  t3 := Try.underlying3
  a3 := Try.isAgg3
  z3 := Try.sizeOf3
  v3 := Try.zeroValue3
  t4 := Try.underlying4
  a4 := Try.isAgg4
  z4 := Try.sizeOf4
  v4 := Try.zeroValue4
  t5 := Try.underlying5
  a5 := Try.isAgg5
  z5 := Try.sizeOf5
  v5 := Try.zeroValue5
  t9 := Try.underlying9
  a9 := Try.isAgg9
  z9 := Try.sizeOf9
  v9 := Try.zeroValue9
  t28 := Try.underlying27
  a28 := Try.isAgg27
  z28 := Try.sizeOf27
  v28 := Try.zeroValue27
  t46 := Try.underlying119
  a46 := Try.isAgg119
  z46 := Try.sizeOf119
  v46 := Try.zeroValue119
  t51 := Try.underlying132
  a51 := Try.isAgg132
  z51 := Try.sizeOf132
  v51 := Try.zeroValue132
  t53 := Try.underlying134
  a53 := Try.isAgg134
  z53 := Try.sizeOf134
  v53 := Try.zeroValue134
  t131 := Try.underlying129
  a131 := Try.isAgg129
  z131 := Try.sizeOf129
  v131 := Try.zeroValue129
  t182 := Try.underlying123
  a182 := Try.isAgg123
  z182 := Try.sizeOf123
  v182 := Try.zeroValue123
  t183 := Try.underlying124
  a183 := Try.isAgg124
  z183 := Try.sizeOf124
  v183 := Try.zeroValue124
  t218 := Try.underlying135
  a218 := Try.isAgg135
  z218 := Try.sizeOf135
  v218 := Try.zeroValue135
  t222 := Try.underlying139
  a222 := Try.isAgg139
  z222 := Try.sizeOf139
  v222 := Try.zeroValue139
  t228 := Try.underlying142
  a228 := Try.isAgg142
  z228 := Try.sizeOf142
  v228 := Try.zeroValue142
  t229 := Try.underlying143
  a229 := Try.isAgg143
  z229 := Try.sizeOf143
  v229 := Try.zeroValue143 }
open Go.Sort Go.RowKit in
theorem Try.slices_Sort_int (blk off cap : Nat) (zs : List Int) (w : World) (hH : Holds (Value.int .i64) w blk off zs.toArray) (hblk : blk < w.heap.size) (hsz : zs.length < 4611686018427387904) :
    Calls Try.prog 63 #[.slice (some ⟨blk, off, none⟩) zs.length cap] w fun e w' =>
      e = .returned (.tuple #[]) ∧ ∃ n os, w' = grow (putRow (Value.int .i64) (Sort.ahead w n) blk off (zs.mergeSort fun x y => decide (x ≤ y)).toArray) os := Any.slices_Sort_int Try.lays189 blk off cap zs w hH hblk hsz
end Go.Proofs

/- Cached. -/
namespace Go.Proofs.Ytlhnmcopioeboaa
set_option maxRecDepth 100000
open Go.RowKit Go.Maps

theorem lt_extD : ∀ (l m : List Int), l.Pairwise (· < ·) → m.Pairwise (· < ·) → (∀ x, x ∈ l ↔ x ∈ m) → l = m
  | [], [], _, _, _ => rfl
  | [], y :: m, _, _, h => by have := (h y).2 List.mem_cons_self; cases this
  | x :: l, [], _, _, h => by have := (h x).1 List.mem_cons_self; cases this
  | x :: l, y :: m, hl, hm, h => by
    obtain ⟨h1, h2⟩ := List.pairwise_cons.1 hl
    obtain ⟨h3, h4⟩ := List.pairwise_cons.1 hm
    have e : x = y := by
      rcases List.mem_cons.1 ((h x).1 List.mem_cons_self) with e | e
      · exact e
      · rcases List.mem_cons.1 ((h y).2 List.mem_cons_self) with e' | e'
        · exact e'.symm
        · have := h3 x e; have := h1 y e'; omega
    subst e
    rw [lt_extD l m h2 h4 fun z => ⟨fun hz => ?_, fun hz => ?_⟩]
    · rcases List.mem_cons.1 ((h z).1 (List.mem_cons_of_mem _ hz)) with e | e
      · subst e; have := h1 z hz; omega
      · exact e
    · rcases List.mem_cons.1 ((h z).2 (List.mem_cons_of_mem _ hz)) with e | e
      · subst e; have := h3 z hz; omega
      · exact e
theorem sort_ext (l m : List Int) (hl : l.Nodup) (hm : m.Pairwise (· < ·)) (h : ∀ x, x ∈ l ↔ x ∈ m) : (l.mergeSort fun x y => decide (x ≤ y)) = m := by
  refine lt_extD _ _ ?_ hm fun x => by rw [List.mem_mergeSort]; exact h x
  have h1 := List.pairwise_mergeSort (le := fun x y : Int => decide (x ≤ y)) (fun a b c h1 h2 => by simp at *; omega) (fun a b => by simp; omega) l
  have h2 : (l.mergeSort fun x y => decide (x ≤ y)).Nodup := (List.mergeSort_perm l _).nodup_iff.2 hl
  have h3 := h1.and h2
  exact h3.imp fun ⟨h4, h5⟩ => by simp at h4; omega

/-- The sectors in the cache, rising. -/
def Dv.keys (S : Dv) : List Nat := (List.range S.med.length).filter fun i => !(S.since i).isEmpty
theorem mem_keys {S : Dv} (h : DvOk S) {i : Nat} : i ∈ S.keys ↔ S.since i ≠ [] := by
  simp only [Dv.keys, List.mem_filter, List.mem_range]
  constructor
  · rintro ⟨_, h2⟩ e; simp [e] at h2
  · intro h2
    refine ⟨?_, by simpa using h2⟩
    rcases Nat.lt_or_ge i S.med.length with h3 | h3
    · exact h3
    · exact absurd (h.out i h3) h2
theorem keys_lt (S : Dv) : (S.keys.map Int.ofNat).Pairwise (· < ·) := by
  rw [List.pairwise_map]
  refine (List.Pairwise.filter _ List.pairwise_lt_range).imp ?_
  intro a b h
  show (a : Int) < b
  omega
theorem mem_keysI {S : Dv} (h : DvOk S) (x : Int) : x ∈ S.keys.map Int.ofNat ↔ ∃ i : Nat, x = i ∧ S.since i ≠ [] := by
  rw [List.mem_map]
  constructor
  · rintro ⟨i, h1, rfl⟩; exact ⟨i, rfl, (mem_keys h).1 h1⟩
  · rintro ⟨i, rfl, h1⟩; exact ⟨i, (mem_keys h).2 h1, rfl⟩

/-- The slice v is the call's own, from block B on, and it is the numbers l. -/
def OwnID (w : World) (B : Nat) (v : Value) (l : List Int) : Prop := w.ownsRow B 3 1 v l.length (l.map (Value.int .i64))

def CachedRel (w : World) (S : Dv) (cb m r : Nat) (D : DataW Unit) (v : Value) (wr : World) : Prop :=
  ∃ left cnt, ∃ l : List Int, wr.ranges Try.prog 3 hdr cb r m D left cnt ∧ OwnID wr r v l ∧ Below r w wr ∧ l.Nodup ∧ l.length + cnt ≤ m ∧
    (∀ x, x ∈ l ↔ ∃ i : Nat, x = i ∧ S.since i ≠ [] ∧ left (.int .i64 (i : Int)) = false) ∧ r ≤ wr.heap.size
theorem info_int : ∃ i, Try.prog.info? 3 = some i ∧ i.zero = some (.int .i64 0) ∧ i.size = 1 ∧ i.bytes = 8 := info_parts (by kernel_rfl)

theorem cached_nil (w : World) :
    Calls Try.prog 44 #[.pointer none] w fun e w' => e = .returned (.slice none 0 0) ∧ w = w' := by
  go_enter Try.func44, Try.ntmps44
  go_wp2
  go_ret
  exact ⟨rfl, rfl⟩

theorem sort_none (w : World) : Calls Try.prog 63 #[.slice none 0 0] w fun e w' => e = .returned (.tuple #[]) ∧ w = w' :=
  (Any.slices_Sort_int_none Try.lays189 none 0 w).mono fun _ _ ⟨h1, h2⟩ => ⟨h1, h2.symm⟩
theorem OwnID.sort {w : World} {B : Nat} {g cap : Nat} {cur : Array Value} {l m : List Int} (hB : B ≤ g) (hb : w.heap[g]? = some (.cells cur 3 (0, 0))) (h1 : l.length ≤ cap) (h2 : cap ≤ maxLen) (h3 : cur.size = cap * 1) (h4 : cur.toList.take (l.length * 1) = l.map (Value.int .i64))
    (hs : (l.mergeSort fun x y => decide (x ≤ y)) = m) (hl : l.length ≤ 4294967296) (hBw : B ≤ w.heap.size) :
    Calls Try.prog 63 #[.slice (some ⟨g, 0, none⟩) l.length cap] w fun e w' => e = .returned (.tuple #[]) ∧ OwnID w' B (.slice (some ⟨g, 0, none⟩) l.length cap) m ∧ Below B w w' := by
  refine (Try.slices_Sort_int g 0 cap l w (holds_of_blockI hb (by simpa using h4)) (Array.getElem?_eq_some_iff.1 hb).1 (by omega)).mono ?_
  rintro e w' ⟨rfl, n, os, rfl⟩
  have hml : m.length = l.length := by rw [← hs]; simp
  refine ⟨rfl, ?_, ?_⟩
  · rw [hs]
    have := ownsRow_sortedI (n := n) (os := os) (base := B) (ss := l) (ts := m) hml hB hb h1 h2 h3
    unfold OwnID
    rw [hml]
    exact this
  · exact (Below.refl _ w).grown (grownBy_sortedI _) hBw (fun j hj => by cases hj; exact hB)

set_option maxHeartbeats 1000000 in
theorem cached_any (b : Nat) (S : Dv) (fp : Nat → Prop) (w : World) (h : DevAt w b S fp) (hc : S.cnt ≤ 4294967296) :
    Calls Try.prog 44 #[.pointer (some ⟨b, 0, none⟩)] w fun e w' => ∃ v, e = .returned v ∧ OwnID w' w.heap.size v (S.keys.map Int.ofNat) ∧ Below w.heap.size w w' := by
  obtain ⟨mb, cb, m, hd, h⟩ := h
  have c1 := h.c1
  have hmle := h.mle
  have hok := Lib.hid h.ok
  obtain ⟨D, hown, hat0, hhas0⟩ := h.map
  have HD : HeadsD D S hd := ⟨hat0, hhas0⟩
  have hcb := h.map.lt
  have hn2 := h.ok.n2
  have HO := Lib.hid h.ok.out
  clear hat0 hhas0 h
  go_enter Try.func44, Try.ntmps44
  go_wp2_with (first | (at_range; refine wpList_range_own _ rfl _ 92 rfl 3 91 law Try.underlying92 _ cb m D rfl hown ?_; intro w0 hrg0 hg0 hs0))
  go_frame
  have hrel0 : CachedRel w S cb m w.heap.size D (.slice none 0 0) w0 := by
    refine ⟨_, _, [], hrg0, World.ownsRow_nil _ _ _ _, (Below.refl _ w).grown hg0 (Nat.le_refl _) (fun _ e => by cases e), List.nodup_nil, by simpa using hown.size_le, fun x => ⟨(fun h => nomatch h), ?_⟩, hg0.size⟩
    rintro ⟨i, rfl, h1, h2⟩
    have hi : i < S.med.length := by
      rcases Nat.lt_or_ge i S.med.length with h3 | h3
      · exact h3
      · exact absurd (HO.out i h3) h1
    rw [HD.has _ (wfN i (by omega)), head_of h1] at h2
    cases h2
  have hrb : Hid (cb < w.heap.size) := hcb
  clear hrg0 hg0 hs0 hown c1 hcb
  generalize hr : w.heap.size = r at hrel0 hrb ⊢
  have HW := Lib.hid hr
  clear hr
  go_loopw [3] (fun v wr => CachedRel w S cb m r D v wr) (fun _ wr => wr.rangeLeft cb r)
  case atStart => exact hrel0
  case round =>
    obtain ⟨left, cnt, l, hrg, hI, hbel, hnd, hlen, hmem, hrs⟩ := hrel
    go_wp2_with (first
      | (at_next; refine wpList_next_ranges _ rfl _ rfl 3 law hdr (Value.int .i64) Hd.val invK invV cb r m D left cnt rfl hrg ?_ ?_))
    · intro _ hl0
      have hsort := sort_ext l (S.keys.map Int.ofNat) hnd (keys_lt S) fun x => by
        rw [hmem x, mem_keysI hok.out]
        exact ⟨fun ⟨i, h1, h2, _⟩ => ⟨i, h1, h2⟩, fun ⟨i, h1, h2⟩ => ⟨i, h1, h2, hl0 _⟩⟩
      have HSort := Lib.hid hsort
      clear hsort hmem hl0
      rcases hI.2 with ⟨rfl, h0⟩ | ⟨g, cap, cur, rfl, hB, hb, h1, h2, h3, h4⟩
      · have e : l = [] := List.eq_nil_of_length_eq_zero h0
        subst e
        clear h0
        go_wp2_with fail
        refine (sort_none _).mono ?_
        rintro e w1 ⟨rfl, rfl⟩
        go_wp2
        go_ret
        have e : S.keys.map Int.ofNat = [] := by rw [← HSort.out]; simp
        rw [e, HW.out]
        exact ⟨_, rfl, hI, hbel⟩
      · have hS := OwnID.sort hB hb h1 h2 h3 h4 HSort.out (by omega) hrs
        clear h4 h3 hb
        go_wp2_with fail
        refine hS.mono ?_
        rintro e w1 ⟨rfl, h5, h6⟩
        go_wp2
        go_ret
        rw [HW.out]
        exact ⟨_, rfl, h5, hbel.trans h6⟩
    · intro x c kl yd yp w2 cnt2 hkey hlk hv hat hrg2 hlt2 hg2 hs2 hen
      obtain ⟨k, rfl, hsk, rfl, rfl⟩ := next_key HD hkey hv hat
      obtain ⟨i0, hi, hz0, hz1, hz2⟩ := info_int
      have hI2 : OwnID w2 r _ l := hI.kept hg2 (by
        by_cases e : Value.ownBlock u3 = none
        · exact .inl e
        · exact .inr fun e' => row_ne_iter hI hrg e'.symm)
      have hb2 : Below r w w2 := hbel.grown hg2 hrs fun j hj => by cases hj; exact Nat.le_refl _
      have hr2 : r ≤ w2.heap.size := Nat.le_trans hrs hg2.size
      have HM := Lib.hid hmem
      have HL := Lib.hid hlk
      have HI2 := Lib.hid hI2
      have HL0 := Lib.hid hrg.left_eq
      clear hmem hs2 hlk hrg hg2 hI hbel hI2 hv hat hkey
      go_wp2_with (first | (at_builtin; refine wpList_append_own_at _ rfl _ _ 27 rfl r 3 i0 (.int .i64 0) 1 8 Try.underlying27 hi hz0 hz1 hz2 rfl (by decide) _ _ _ rfl (World.ownsRow.alloc HI2.out _) ⟨w2.heap.size, 0, none⟩ 1 1 [.int .i64 (k : Int)] rfl rfl (cell_one_new _ _ _) (ints_oneCell .i64 [(k : Int)]) (by unfold maxLen; omega) (by omega) (by simp; omega) ?_; intro v3 w3 hown3 hg3 hnil3 hloc3))
      have hg3' : (w2.alloc (.cells #[.int .i64 (k : Int)] 3)).grownBy w3 (Value.ownBlock u3) := hg3
      have hrg3 := (hrg2.alloc (.cells #[.int .i64 (k : Int)] 3)).kept hg3' (row_ne_low HI2.out hrb.out) (row_ne_iter HI2.out hrg2)
      have hz3 := hg3'.size
      simp only [World.size_alloc] at hz3
      clear hg3 hnil3 hloc3
      go_roundw
      case rel =>
        refine ⟨_, cnt2, l ++ [(k : Int)], hrg3, ?_, ?_, ?_, by simp; omega, ?_, by omega⟩
        · unfold OwnID
          simpa using hown3
        · exact (hb2.alloc hr2 _).grown hg3' (by simp; omega) fun j hj => (HI2.out.lt j hj).1
        · rw [List.nodup_append]
          refine ⟨hnd, by simp, fun a ha c hc => ?_⟩
          rw [List.mem_singleton.1 hc]
          rintro rfl
          obtain ⟨i, h1, _, h3⟩ := (HM.out _).1 ha
          rw [← h1, HL.out] at h3
          cases h3
        · intro x
          rw [List.mem_append, HM.out x, List.mem_singleton]
          constructor
          · rintro (⟨i, rfl, h1, h2⟩ | rfl)
            · exact ⟨i, rfl, h1, by simp [h2]⟩
            · exact ⟨k, rfl, hsk, by simp [sameKey_int]⟩
          · rintro ⟨i, rfl, h1, h2⟩
            by_cases e : i = k
            · right; rw [e]
            · left
              refine ⟨i, rfl, h1, ?_⟩
              have e' : ¬ ((i : Int) = (k : Int)) := by omega
              simpa [sameKey_int, e'] using h2
      case measure => rw [hrg3.left_eq, HL0.out]; exact hlt2
end Go.Proofs.Ytlhnmcopioeboaa
