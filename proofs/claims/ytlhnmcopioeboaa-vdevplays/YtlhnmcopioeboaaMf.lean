/-
  Crash.
  few of the laws; code.Bad.
  A crash of a pool's devices; what is read behind it; columns as they are encoded have no bad one.
  Spoil, Fresh, New.
  Fresh, New.
  New.
  vdev.New: the groups are cloned; a pool grows device by device.
  vdev.New: the walk.
  vdev.New: the walk.
  vdev.New of a measure that isn't right; Right and Here of no devices; Here.
-/
import Derived.Test.YtlhnmcopioeboaaMe
import Derived.StillTailTactics
import Derived.Laws.BitsAllLaws
import Derived.Laws.MakeOwn

/- Crash. -/
namespace Go.Proofs.Ytlhnmcopioeboaa
set_option maxRecDepth 100000
open Go.RowKit Go.Maps

/-- The slice value v is the numbers l; they lie in no block of fp. -/
def Ints (fp : Nat → Prop) (w : World) (v : Value) (l : List Int) : Prop :=
  ∃ a c, v = .slice a l.length c ∧ l.length ≤ c ∧ ∀ j, j < l.length → ∃ g o, a = some ⟨g, o, none⟩ ∧ ¬ fp g ∧ g < w.heap.size ∧ w.cell? ⟨g, o + j, none⟩ = some (.int .i64 (l.getD j 0))
theorem Ints.nil (fp : Nat → Prop) (w : World) : Ints fp w (.slice none 0 0) [] := ⟨none, 0, rfl, Nat.le_refl _, fun _ h => absurd h (Nat.not_lt_zero _)⟩
theorem Ints.turn {fp fp' : Nat → Prop} {w w' : World} {v : Value} {l : List Int} (h : Ints fp w v l) (t : Turn fp w w') (hf : ∀ k, fp' k → fp k ∨ w.heap.size ≤ k) : Ints fp' w' v l := by
  obtain ⟨a, c, rfl, h1, h2⟩ := h
  refine ⟨a, c, rfl, h1, fun j hj => ?_⟩
  obtain ⟨g, o, rfl, h3, h4, h5⟩ := h2 j hj
  exact ⟨g, o, rfl, fun e => by rcases hf g e with e | e; exact h3 e; omega, Nat.lt_of_lt_of_le h4 t.size, by rw [World.cell?_of_block (w := w) (t.block g h4 h3)]; exact h5⟩
theorem Ints.below {fp : Nat → Prop} {w w' : World} {v : Value} {l : List Int} (h : Ints fp w v l) (hb : Below w.heap.size w w') : Ints fp w' v l := h.turn (Turn.of_below hb) fun _ h => .inl h
theorem Ints.at_ {fp : Nat → Prop} {w : World} {a : Option Addr} {n c : Nat} {l : List Int} (h : Ints fp w (.slice a n c) l) : l.length = n ∧ ∀ j, j < l.length → ∃ g o, a = some ⟨g, o, none⟩ ∧ ¬ fp g ∧ g < w.heap.size ∧ w.cell? ⟨g, o + j, none⟩ = some (.int .i64 (l.getD j 0)) := by
  obtain ⟨a', c', e, h1, h2⟩ := h
  cases e
  exact ⟨rfl, h2⟩
theorem OwnID.ints {fp : Nat → Prop} {w : World} {B : Nat} {v : Value} {l : List Int} (h : OwnID w B v l) (hf : ∀ k, fp k → k < B) : Ints fp w v l := by
  have hcells := fun g hg => World.ownsRow.cells (g := g) h hg
  rcases h.2 with ⟨rfl, hn⟩ | ⟨g, cap, cur, rfl, hB, hg, hnc, _⟩
  · have : l = [] := List.eq_nil_of_length_eq_zero hn
    subst this
    exact Ints.nil _ _
  · refine ⟨_, cap, rfl, hnc, fun j hj => ⟨g, 0, rfl, fun e => by have := hf g e; omega, (Array.getElem?_eq_some_iff.1 hg).1, ?_⟩⟩
    have := hcells g rfl j (.int .i64 l[j]) (by rw [List.getElem?_map, List.getElem?_eq_getElem hj]; rfl)
    rw [Go.WideShapes.add_plain] at this
    rw [this, List.getD_eq_getElem?_getD, List.getElem?_eq_getElem hj]
    rfl

/-- On the way of a crash: t of the sectors in the cache are settled. -/
def Dv.crashTo (S : Dv) (l : List Int) : Nat → Dv
  | 0 => S
  | t + 1 => if t < l.length then (S.crashTo l t).settle (S.keys.getD t 0) (l.getD t 0) else S.crashTo l t
/-- Behind a crash. -/
def Dv.crash (S : Dv) (l : List Int) : Dv := { (S.crashTo l S.keys.length).bare with fused := false }
theorem crashTo_since (S : Dv) (l : List Int) (t : Nat) : (S.crashTo l t).since = S.since ∧ (S.crashTo l t).med.length = S.med.length ∧ (S.crashTo l t).cnt = S.cnt ∧ (S.crashTo l t).lost = S.lost := by
  induction t with
  | zero => exact ⟨rfl, rfl, rfl, rfl⟩
  | succ t ih =>
    unfold Dv.crashTo
    split
    · unfold Dv.settle
      exact ⟨ih.1, by simp only [List.length_set]; exact ih.2.1, ih.2.2.1, ih.2.2.2⟩
    · exact ih
theorem keys_at {S : Dv} (h : DvOk S) (t : Nat) (ht : t < S.keys.length) : S.keys.getD t 0 < S.med.length ∧ S.since (S.keys.getD t 0) ≠ [] := by
  have hm : S.keys.getD t 0 ∈ S.keys := by
    rw [List.getD_eq_getElem?_getD, List.getElem?_eq_getElem ht]; exact List.getElem_mem ht
  refine ⟨?_, (mem_keys h).1 hm⟩
  simp only [Dv.keys, List.mem_filter, List.mem_range] at hm
  exact hm.1
def CrashRel (w : World) (b mb cb m : Nat) (hd : Nat → Nat × Nat) (S : Dv) (fp : Nat → Prop) (l : List Int) (u : Value) (wr : World) : Prop :=
  ∃ t : Nat, t ≤ S.keys.length ∧ u = .int .i64 (t : Int) ∧ DevIn wr b mb cb m hd (S.crashTo l t) fp ∧ Turn fp w wr

theorem crash_nil (v : Value) (w : World) :
    Calls Try.prog 22 #[.pointer none, v] w fun e w' => e = .returned (.tuple #[]) ∧ w = w' := by
  go_enter Try.func22, Try.ntmps22
  go_wp2_with fail
  refine (lost_nil _).mono ?_
  rintro e w1 ⟨rfl, rfl⟩
  go_wp2
  exact bodyPost_ret (results_none rfl _ _ _) rfl ⟨rfl, rfl⟩
theorem crash_lost (b : Nat) (S : Dv) (fp : Nat → Prop) (v : Value) (w : World) (h : DevAt w b S fp) (hl : S.lost = true) :
    Calls Try.prog 22 #[.pointer (some ⟨b, 0, none⟩), v] w fun e w' => e = .returned (.tuple #[]) ∧ w = w' := by
  have hL := lost_any b S fp w h
  rw [hl] at hL
  go_enter Try.func22, Try.ntmps22
  go_wp2_with fail
  refine hL.mono ?_
  rintro e w1 ⟨rfl, rfl⟩
  go_wp2
  exact bodyPost_ret (results_none rfl _ _ _) rfl ⟨rfl, rfl⟩

set_option maxHeartbeats 1000000 in
theorem crash_ok (b : Nat) (S : Dv) (fp : Nat → Prop) (v : Value) (l : List Int) (w : World) (h : DevAt w b S fp) (hl : S.lost = false) (hc : S.cnt ≤ 4294967296) (hv : Ints fp w v l) :
    Calls Try.prog 22 #[.pointer (some ⟨b, 0, none⟩), v] w fun e w' => e = .returned (.tuple #[]) ∧ Did fp b (S.crash l) w w' := by
  have hL := lost_any b S fp w h
  rw [hl] at hL
  have hC := cached_any b S fp w h hc
  have hok := Lib.hid h.ok
  obtain ⟨mb, cb, m, hd, h⟩ := h
  have HFP := Lib.hid h.lt
  obtain ⟨ka, kc, rfl, hkc, hkj⟩ := hv
  have HKJ := Lib.hid hkj
  have H := Lib.hid h
  clear hkj h
  go_enter Try.func22, Try.ntmps22
  go_wp2_with fail
  refine hL.mono ?_
  rintro e w1 ⟨rfl, rfl⟩
  go_wp2_with fail
  refine hC.mono ?_
  rintro e w1 ⟨cv, rfl, hI, b1⟩
  obtain ⟨ca, cc, rfl, hcc, hcj⟩ := hI.ints (fp := fp) HFP.out
  rw [List.length_map] at hcc
  simp only [List.length_map] at hcj ⊢
  have HCJ := Lib.hid hcj
  have hd1 := H.out.below b1
  have HKJ1 : Hid (Ints fp w1 (.slice ka l.length kc) l) := (show Ints fp w (.slice ka l.length kc) l from ⟨ka, kc, rfl, hkc, HKJ.out⟩).below b1
  have T1 : Hid (Turn fp w w1) := Turn.of_below b1
  clear hcj hI b1 hL hC H HKJ
  generalize hkn : S.keys.length = kn at *
  generalize hln : l.length = ln at *
  have HKN := Lib.hid hkn
  have HLN := Lib.hid hln
  clear hkn hln
  have hkn2 : kn ≤ 4096 := by
    rw [← HKN.out]
    have h1 : S.keys.length ≤ (List.range S.med.length).length := List.length_filter_le _ _
    have h2 := hok.out.n2
    simp at h1; omega
  have hrel0 : CrashRel w1 b mb cb m hd S fp l (.int .i64 0) w1 := ⟨0, Nat.zero_le _, rfl, hd1, Turn.refl _ _⟩
  clear hd1
  go_wp2_with fail
  go_loopw [11] (fun u wr => CrashRel w1 b mb cb m hd S fp l u wr) (fun u _ => kn - (intOf u).toNat)
  case atStart => exact hrel0
  case round =>
    obtain ⟨t, ht, rfl, hdev, hturn⟩ := hrel
    rw [HKN.out] at ht
    by_cases hlt : t < kn
    · obtain ⟨hk1, hk2⟩ := keys_at hok.out t (by rw [HKN.out]; exact hlt)
      obtain ⟨cg, co, rfl, hcf, hcg, hcell⟩ := HCJ.out t hlt
      have hcell2 : wr.cell? ⟨cg, co + t, none⟩ = some (.int .i64 ((S.keys.getD t 0 : Nat) : Int)) := by
        rw [World.cell?_of_block (w := w1) (hturn.block cg hcg hcf), hcell]
        simp only [List.getD_eq_getElem?_getD, List.getElem?_map]
        rw [List.getElem?_eq_getElem (by rw [HKN.out]; exact hlt)]
        rfl
      clear hcell
      have hstep : Hid (S.crashTo l (t + 1) = if t < l.length then (S.crashTo l t).settle (S.keys.getD t 0) (l.getD t 0) else S.crashTo l t) := rfl
      obtain ⟨e1, e2, e3, _⟩ := crashTo_since S l t
      have hset := fun n => settle_any b mb cb m hd (S.crashTo l t) fp (S.keys.getD t 0) n wr hdev (by rw [e2]; exact hk1) (by rw [e3]; exact hc)
      clear e1 e2 e3
      rw [HLN.out] at hstep
      generalize S.keys.getD t 0 = kk at *
      by_cases htl : t < ln
      · obtain ⟨kg, ko, rfl, hkf, hkg, hkcell⟩ := HKJ1.out.at_.2 t (by rw [HLN.out]; exact htl)
        have hkcell2 : wr.cell? ⟨kg, ko + t, none⟩ = some (.int .i64 (l.getD t 0)) := by
          rw [World.cell?_of_block (w := w1) (hturn.block kg hkg hkf), hkcell]
        clear hkcell
        have hset := hset (l.getD t 0)
        rw [if_pos htl] at hstep
        generalize l.getD t 0 = kv at *
        go_wp2_with fail
        refine hset.mono ?_
        rintro e w2 ⟨rfl, h2, t2⟩
        clear hset hcell2 hkcell2
        go_wp2
        go_roundw
        case rel => exact ⟨t + 1, by rw [HKN.out]; omega, by go_num, by rw [hstep.out]; exact h2, hturn.trans t2 fun _ h => .inl h⟩
        case measure => simp [intOf]; omega
      · rw [if_neg htl] at hstep
        clear hset
        have htl' : decide (t < ln) = false := by simpa using htl
        go_wp2
        go_roundw
        case rel => exact ⟨t + 1, by rw [HKN.out]; omega, by go_num, by rw [hstep.out]; exact hdev, hturn⟩
        case measure => simp [intOf]; omega
    · obtain rfl : t = kn := by omega
      have c1 := hdev.c1
      have HD := Lib.hid hdev
      clear hdev
      go_wp2_with (obtain ⟨w', hr, h3, h4⟩ := wipe_any HD.out _; have c3 := h3.c3; have f3 := h3.fr 3; have c0 := h3.c0; have H3 := Lib.hid h3; clear h3; refine wpList_clear _ rfl _ _ rfl _ rfl _ hr ?_)
      go_end0
      refine ⟨rfl, Did.of (mb := mb) (cb := cb) (m := 0) (hd := hd) (S := S.crash l) ?_ ((T1.out.trans (hturn.trans h4 fun _ h => .inl h) fun _ h => .inl h).setCell (.inl H3.out.fb) _)⟩
      have := H3.out.set3 false
      unfold Dv.crash
      rw [HKN.out]
      exact this
end Go.Proofs.Ytlhnmcopioeboaa

/- few of the laws; code.Bad. -/
namespace Go.Proofs.Ytlhnmcopioeboaa
set_option maxRecDepth 100000
open Go.RowKit M

/-- No text of the first k is over 1,000 bytes. -/
def shortTo (l : List ByteArray) (k : Nat) : Prop := ∀ j (h : j < l.length), j < k → l[j].size ≤ 1000

/-- What few answers. -/
def FewV (G : List ByteArray) (v : Value) : Prop := ∃ b, v = .bool b ∧ (b = true → G.length < 100 ∧ ∀ s ∈ G, s.size ≤ 1000)

/-- Are two texts unlike? -/
def neB (s t : ByteArray) : Bool := !(s.toList == t.toList)
theorem eq_of_toList {s t : ByteArray} (h : s.toList = t.toList) : s = t := by
  rw [ByteArray.toList_eq, ByteArray.toList_eq] at h
  exact extL h
theorem neB_false {s t : ByteArray} : neB s t = false ↔ s = t := by
  unfold neB
  rw [Bool.not_eq_false', beq_iff_eq]
  exact ⟨eq_of_toList, fun h => by rw [h]⟩
theorem neB_true {s t : ByteArray} : neB s t = true ↔ s ≠ t := by
  rw [ne_eq, ← neB_false]; cases neB s t <;> simp
/-- The columns among the first k that aren't as they are to be. -/
def badL (E G : List ByteArray) (k : Nat) : List Int := (idx (fun j => neB (G.getD j ⟨#[]⟩) (E.getD j ⟨#[]⟩)) k).map fun (j : Nat) => (j : Int)
theorem badL_yes {E G : List ByteArray} {k : Nat} (h : neB (G.getD k ⟨#[]⟩) (E.getD k ⟨#[]⟩) = true) : badL E G (k + 1) = badL E G k ++ [(k : Int)] := by
  unfold badL; rw [idx_yes h, List.map_append]; rfl
theorem badL_no {E G : List ByteArray} {k : Nat} (h : neB (G.getD k ⟨#[]⟩) (E.getD k ⟨#[]⟩) = false) : badL E G (k + 1) = badL E G k := by
  unfold badL; rw [idx_no h]
theorem badL_len (E G : List ByteArray) (k : Nat) : (badL E G k).length ≤ k := by unfold badL; rw [List.length_map]; exact idx_le _ _
def badOf (l : List (Int × Int)) (sc k t : Int) (s : ByteArray) (G : List ByteArray) : List Int :=
  if mayT l sc k t s.size && fitsL l sc k t ((s.size / 64 : Nat) : Int) G then badL (encOf l k.toNat t.toNat (s.size / 64) s) G (encOf l k.toNat t.toNat (s.size / 64) s).length else []
theorem getD_some {G : List ByteArray} {j : Nat} {y : ByteArray} (h : ∃ h : j < G.length, G[j] = y) : G.getD j ⟨#[]⟩ = y := by
  obtain ⟨h, rfl⟩ := h
  rw [List.getD_eq_getElem?_getD, List.getElem?_eq_getElem h]; rfl

set_option maxHeartbeats 2000000 in
theorem bad_any (l : List (Int × Int)) (sc : Int) (v : Value) (w : World) (h : Meas w v l sc) (k t : Int) (hk : I64 k) (ht : I64 t) (s : ByteArray) (hs : s.size ≤ 1000) (G : List ByteArray) (vG : Value) (hG : Txt w vG G) (hm : G.length ≤ 100000) :
    Calls Try.prog 23 #[v, .agg #[.int .i64 k, .int .i64 t], .string s, vG] w fun e w' => ∃ v', e = .returned v' ∧ OwnI w.heap.size w' v' (badOf l sc k t s G) ∧ Below w.heap.size w w' := by
  have K1 := h
  obtain ⟨a, n, c, rfl, hg⟩ := id h
  replace K1 := Lib.hid (HeldP.start k t K1)
  have HC := Lib.hid (encode_any l sc _ _ K1.out.h.m k t hk ht s hs)
  have HG := Lib.hid hG
  obtain ⟨aG, cG, eG, hcG, hjG⟩ := hG
  obtain ⟨N, hN⟩ : ∃ N, s.size = N := ⟨_, rfl⟩
  have HFI : Hid (∀ w1, HeldP w w1 w.heap.size (w.heap.size + 1) a n c sc l k t → Calls Try.prog 24 #[.agg #[.slice a n c, .int .i64 sc], .agg #[.int .i64 k, .int .i64 t], .int .i64 ((N / 64 : Nat) : Int), vG] w1 fun e w' => e = .returned (.bool (fitsL l sc k t ((N / 64 : Nat) : Int) G)) ∧ Below w1.heap.size w1 w') :=
    Lib.hid fun w1 hh => fits_any l sc _ w1 hh.h.m k t _ hk ht ⟨by omega, by omega⟩ G vG (HG.out.below hh.h.below) hm
  have q4 : Int.tdiv (N : Int) 64 = ((N / 64 : Nat) : Int) := by rw [Int.tdiv_eq_ediv_of_nonneg (by omega)]; omega
  rw [hN] at hs
  have hq : (N / 64 : Nat) ≤ 1000 := by omega
  generalize hz : N / 64 = z at HFI q4 hq
  generalize hn : G.length = nG at eG hm hcG
  subst eG
  have HN := Lib.hid hn
  have HJG := Lib.hid hjG
  have HBO : Hid (badOf l sc k t s G = if mayT l sc k t s.size && fitsL l sc k t (z : Int) G then badL (encOf l k.toNat t.toNat z s) G (encOf l k.toNat t.toNat z s).length else []) := Lib.hid (by unfold badOf; rw [hN, hz])
  have HZ : Hid (s.size / 64 = z) := Lib.hid (by rw [hN]; exact hz)
  clear h hg hk ht hn hjG hz
  go_enter Try.func23, Try.ntmps23
  go_wp2_with fail
  refine HC.out.mono ?_
  rintro e w1 ⟨v1, er, rfl, he, b1⟩
  have K2 := Lib.hid (K1.out.next b1)
  have hBs := K1.out.h.below.size
  clear HC b1
  rcases he with ⟨hno, rfl, rfl⟩ | ⟨k', t', z', rfl, rfl, hsz, hB, rfl, hO⟩
  · have HE : Hid (badOf l sc k t s G = []) := Lib.hid (by rw [HBO.out, hno]; rfl)
    clear hno
    go_wp2
    go_ret
    exact ⟨_, rfl, by rw [HE.out]; exact OwnI.nil _ _, K2.out.h.below⟩
  · obtain rfl : z' = z := by have := HZ.out; omega
    have hmT : mayT l sc k' t' s.size = true := mayT_iff.2 ⟨k', t', z', rfl, rfl, hsz, hB⟩
    have HLN : Hid (fitsL l sc k' t' z' G = true → (encOf l k' t' z' s).length = G.length) := Lib.hid (fun h => by
      unfold fitsL at h
      simp only [Bool.and_eq_true, decide_eq_true_iff] at h
      rw [encOf_len]
      exact h.1.2)
    have HP : Hid (0 < (encOf l k' t' z' s).length) := Lib.hid (by rw [encOf_len]; exact hB.laid.pos)
    have HP2 : Hid ((encOf l k' t' z' s).length ≤ 32) := Lib.hid (by rw [encOf_len]; exact hB.laid.few)
    obtain ⟨g1, c1, rfl, hc1, hg1B, hg1, hj1⟩ : ∃ g c, v1 = .slice (some ⟨g, 0, none⟩) (encOf l k' t' z' s).length c ∧ (encOf l k' t' z' s).length ≤ c ∧ w.heap.size ≤ g ∧ g < w1.heap.size ∧ ∀ j (h : j < (encOf l k' t' z' s).length), w1.cell? ⟨g, j, none⟩ = some (.string (encOf l k' t' z' s)[j]) := by
      obtain ⟨g, o, c, e, hc, hg, hj⟩ := hO.txt.isSome HP.out
      rcases hO.2 with ⟨_, h0⟩ | ⟨g', cap, cur, e', hB', _⟩
      · have := HP.out; omega
      · rw [e'] at e
        cases e
        exact ⟨_, _, e', hc, by omega, hg, fun j h => by have := hj j h; rwa [Nat.zero_add] at this⟩
    have HBO2 : Hid (badOf l sc k' t' s G = if fitsL l sc k' t' (z' : Int) G then badL (encOf l k' t' z' s) G (encOf l k' t' z' s).length else []) := Lib.hid (by rw [HBO.out, hmT, Bool.true_and]; rfl)
    clear hmT hO hB HBO
    generalize encOf l k' t' z' s = E at HLN HP HP2 hc1 hj1 HBO2
    generalize hm1 : E.length = m1 at HP2 hc1
    have HE1 := Lib.hid hm1
    have HJ1 := Lib.hid hj1
    have hm0 : 0 < m1 := by rw [← hm1]; exact HP.out
    have hm32 := HP2.out
    clear hm1 hj1 HP HP2
    have HCF := Lib.hid (HFI.out _ K2.out)
    have k0 := K2.out.h.c0
    have k1 := K2.out.h.c1
    have p0 := K2.out.p0
    have p1 := K2.out.p1
    cases hf : fitsL l sc k' t' (z' : Int) G with
    | false =>
      rw [hf] at HCF HBO2
      go_wp2_with fail
      refine HCF.out.mono ?_
      rintro e w2 ⟨rfl, b2⟩
      go_wp2
      go_ret
      exact ⟨_, rfl, by rw [HBO2.out]; exact OwnI.nil _ _, next K2.out.h.below b2⟩
    | true =>
      rw [hf] at HCF HBO2
      have HBO3 : Hid (badOf l sc k' t' s G = badL E G m1) := Lib.hid (by rw [HBO2.out, HE1.out]; rfl)
      clear HBO2
      have hln : m1 = nG := by rw [← HE1.out, ← HN.out]; exact HLN.out hf
      subst hln
      clear hf
      go_wp2_with fail
      refine HCF.out.mono ?_
      rintro e w2 ⟨rfl, b2⟩
      have HW2 := Lib.hid (next K2.out.h.below b2)
      have HJ2 : Hid (∀ j (h : j < E.length), w2.cell? ⟨g1, j, none⟩ = some (.string E[j])) := Lib.hid fun j h => by rw [b2.cell (p := ⟨g1, j, none⟩) hg1]; exact HJ1.out j h
      have hg2 : g1 < w2.heap.size := Nat.lt_of_lt_of_le hg1 b2.size
      clear b2 K2 K1 HJ1 hg1 k0 k1 p0 p1
      go_wp2_with fail
      go_loopw [11, 34] (fun t11 i34 wr => ∃ (j m : Nat) (b : Option Addr) (cc : Nat), j ≤ m1 ∧ m ≤ j ∧ i34 = .int .i64 (j : Int) ∧ t11 = .slice b m cc ∧ Hid (OwnI w2.heap.size wr (.slice b m cc) (badL E G j)) ∧ Hid ((badL E G j).length = m) ∧ Hid (Below w2.heap.size w2 wr)) (fun _ i _ => m1 - (intOf i).toNat)
      case atStart => exact ⟨0, 0, none, 0, Nat.zero_le _, Nat.le_refl _, rfl, rfl, Lib.hid (OwnI.nil _ _), Lib.hid rfl, Lib.hid (Below.refl _ _)⟩
      case round =>
        obtain ⟨j, m, b, cc, hj, hmj, rfl, rfl, HO, HM, HW⟩ := hrel
        have hsr := HW.out.size
        by_cases hjn : j < m1
        · have hjE : j < E.length := by rw [HE1.out]; exact hjn
          have hjG : j < G.length := by rw [HN.out]; exact hjn
          obtain ⟨x, hx⟩ : ∃ x, E[j] = x := ⟨_, rfl⟩
          obtain ⟨y, hy⟩ : ∃ y, G[j] = y := ⟨_, rfl⟩
          have ex := (HW.out.cell (p := ⟨g1, j, none⟩) hg2).trans (HJ2.out j hjE)
          obtain ⟨gy, oy, rfl, hgy, hyc⟩ := HJG.out j hjG
          have ey := (HW.out.cell (p := ⟨gy, oy + j, none⟩) (Nat.lt_of_lt_of_le hgy HW2.out.size)).trans ((HW2.out.cell (p := ⟨gy, oy + j, none⟩) hgy).trans hyc)
          rw [hx] at ex
          rw [hy] at ey
          have HXY : Hid (neB (G.getD j ⟨#[]⟩) (E.getD j ⟨#[]⟩) = neB y x) := Lib.hid (by rw [getD_some ⟨hjG, hy⟩, getD_some ⟨hjE, hx⟩])
          clear hx hy hyc hjE hjG
          cases hne : neB y x with
          | false =>
            have hq1 : (y.toList == x.toList) = true := by unfold neB at hne; simpa using hne
            have hq2 : (y.toList != x.toList) = false := by unfold bne; rw [hq1]; rfl
            have HNX : Hid (badL E G (j + 1) = badL E G j) := Lib.hid (badL_no (by rw [HXY.out]; exact hne))
            clear hne HXY
            go_wp2_with fail
            go_quiet (fail)
            go_wp2
            go_roundw
            case rel => exact ⟨j + 1, m, b, cc, by omega, by omega, by go_num, rfl, Lib.hid (by rw [HNX.out]; exact HO.out.below (below_drewN (Below.refl _ _) _)), Lib.hid (by rw [HNX.out]; exact HM.out), Lib.hid (below_drewN HW.out _)⟩
            case measure => simp [intOf]; omega
          | true =>
            have hq1 : (y.toList == x.toList) = false := by unfold neB at hne; simpa using hne
            have hq2 : (y.toList != x.toList) = true := by unfold bne; rw [hq1]; rfl
            have HNX : Hid (badL E G (j + 1) = badL E G j ++ [(j : Int)]) := Lib.hid (badL_yes (by rw [HXY.out]; exact hne))
            have HM1 : Hid ((badL E G j ++ [(j : Int)]).length = m + 1) := Lib.hid (by rw [List.length_append, HM.out]; rfl)
            have HLE : Hid ((badL E G j).length ≤ 100000) := Lib.hid (by rw [HM.out]; omega)
            clear hne HXY
            go_wp2_with fail
            go_quiet (fail)
            go_wp2_with (at_builtin; refine wpList_append_int _ rfl _ _ rfl w2.heap.size _ _ (j : Int) _ _ rfl rfl ((HO.out.below (below_drewN (Below.refl _ _) _)).below (boxed _ _)) (box_now _ _ _ (by first | rfl | simp)) (by simp; omega) HLE.out ?_; intro v3 w3 hown3 hb3 hs3; obtain ⟨a3, n3, c3, e3, hn3, -⟩ := hown3.v; rw [HM1.out] at hn3; subst hn3; subst e3)
            go_roundw
            case rel => exact ⟨j + 1, m + 1, a3, c3, by omega, by omega, by go_num, rfl, Lib.hid (by rw [HNX.out]; exact hown3), Lib.hid (by rw [HNX.out]; exact HM1.out), Lib.hid ((grows_alloc (below_drewN HW.out _) _).trans hb3)⟩
            case measure => simp [intOf]; omega
        · obtain rfl : j = m1 := by omega
          go_wp2
          go_ret
          refine ⟨_, rfl, ?_, HW2.out.trans (HW.out.mono HW2.out.size)⟩
          rw [HBO3.out]
          exact HO.out.lower HW2.out.size
end Go.Proofs.Ytlhnmcopioeboaa

/- A crash of a pool's devices; what is read behind it; columns as they are encoded have no bad one. -/
namespace Go.Proofs.Ytlhnmcopioeboaa
set_option maxRecDepth 100000
open Go.RowKit Go.Maps M

theorem crashTo_none (S : Dv) (t : Nat) : S.crashTo [] t = S := by
  induction t with
  | zero => rfl
  | succ t ih => rw [Dv.crashTo, if_neg (by simp), ih]
theorem crash_none (S : Dv) : S.crash [] = { S.bare with fused := false } := by
  unfold Dv.crash
  rw [crashTo_none]
theorem crash_now (S : Dv) (a : Nat) : (S.crash []).now a = S.med.getD a [] := by
  rw [crash_none]
  simp [Dv.now, Dv.bare]
theorem flush_med (S : Dv) (a : Nat) (h : a < S.med.length) : S.flush.med.getD a [] = S.now a := by
  unfold Dv.flush
  simp only
  rw [List.getD_eq_getElem?_getD, List.getElem?_map, List.getElem?_range h]
  rfl
theorem putD_med (ds : Nat → Dv) (aw : Nat → Bool) (d a : Nat) (s : ByteArray) (i : Nat) : (putD ds aw d a s i).med = (ds i).med := by
  unfold putD
  split
  · unfold upd
    split
    · rename_i e; subst e; rfl
    · rfl
  · rfl
theorem wrTo_med (ds : Nat → Dv) (aw : Nat → Bool) (L : List C) (E : List ByteArray) (m i : Nat) : (wrTo ds aw L E m i).med = (ds i).med := by
  induction m with
  | zero => rfl
  | succ m ih => rw [wrTo, putD_med, ih]
/-- The devices, of which the first j crashed. -/
def crTo (ds : Nat → Dv) (j i : Nat) : Dv := if i < j then (ds i).crash [] else ds i
theorem crTo_zero (ds : Nat → Dv) : crTo ds 0 = ds := by funext i; simp [crTo]
theorem crTo_succ (ds : Nat → Dv) (j : Nat) : upd (crTo ds j) j ((crTo ds j j).crash []) = crTo ds (j + 1) := by
  funext i
  unfold upd crTo
  by_cases e : i = j
  · subst e; simp
  · rw [if_neg e]
    by_cases h2 : i < j
    · simp [h2, show i < j + 1 by omega]
    · simp [h2, show ¬ i < j + 1 by omega]
theorem crTo_at (ds : Nat → Dv) (j : Nat) : crTo ds j j = ds j := by simp [crTo]
theorem crash_lost_eq (S : Dv) : (S.crash []).lost = S.lost := by rw [crash_none]; rfl
section
variable {X : Nat → Prop} {B : Nat} {w : World} {x : Px} {l : List (Int × Int)} {ds : Nat → Dv} {aw : Nat → Bool} {K : Nat} {P : World → Prop}
theorem cr_any (h : StX X B w x l ds aw K P) {i : Nat} (hi : i < x.n) (hl : (ds i).lost = false) (hK : K < 4000000000) :
    ∃ b, w.cell? ⟨x.lb, i, none⟩ = some (.pointer (some ⟨b, 0, none⟩)) ∧ Calls Try.prog 22 #[.pointer (some ⟨b, 0, none⟩), .slice none 0 0] w fun e w' =>
      e = .returned (.tuple #[]) ∧ StX X B w' x l (upd ds i ((ds i).crash [])) aw K P ∧ Below B w w' := by
  obtain ⟨b, f, hb, hd, hdid⟩ := h.did hi
  have hg := h.good hi
  have hcnt := hg.cnt
  refine ⟨b, hb, (crash_ok b (ds i) f (.slice none 0 0) [] w hd hl (by omega) (Ints.nil _ _)).mono fun e w' ⟨he, hd⟩ => ?_⟩
  obtain ⟨h1, h2, _⟩ := hdid _ w' K hd ⟨by rw [crash_none], by rw [crash_none]; exact hg.len, by rw [crash_none]; exact Nat.zero_le _⟩ (Nat.le_refl _)
  exact ⟨he, h1, h2⟩
end
theorem badL_same (E : List ByteArray) : ∀ n, badL E E n = [] := by
  intro n
  induction n with
  | zero => rfl
  | succ n ih => rw [badL_no (neB_false.2 rfl), ih]
/-- A block's columns as they are encoded: they fit, and none is bad. -/
theorem Blk.whole {l : List (Int × Int)} {sc : Int} {k t z : Nat} (h : Blk l sc k t z) {s : ByteArray} (hs : s.size = z * 64) : fitsL l sc k t z (encOf l k t z s) = true ∧ badOf l sc k t s (encOf l k t z s) = [] := by
  obtain ⟨kk, u, hE⟩ := h.enc7 hs
  have hsz : ∀ x ∈ encL (colsOf l k t z) (fun i => sect s (i % z)), x.size = 0 ∨ x.size = 64 := fun x hx => .inr (encL_size hE.sound hE.hf x hx)
  have hf := hE.fits (encL_len _ _) hsz
  rw [hE.enc]
  refine ⟨hf, ?_⟩
  unfold badOf
  have hz : s.size / 64 = z := by rw [hs, Nat.mul_div_cancel _ (by decide)]
  rw [mayT_iff.2 ⟨k, t, z, rfl, rfl, hs, h⟩, hz, hf]
  show badL (encOf l k t z s) _ (encOf l k t z s).length = []
  rw [hE.enc]
  exact badL_same _ _
/-- What was written, flushed, written over and crashed is read as it was flushed. -/
theorem raw_crash {L : List C} {n : Nat} {sc : Int} {E E2 : List ByteArray} (hP : Puts n sc L E) (hA : ApartN L) (D : Dv) (hD : D.lost = false) (hlen : (D.med.length : Int) = sc) :
    rawL (crTo (wrTo (flTo (wrTo (fun _ => D) (fun _ => false) L E L.length) (fun _ => false) n) (fun _ => false) L E2 L.length) n) (fun _ => false) L = E := by
  have hl1 : ∀ i, (wrTo (fun _ => D) (fun _ => false) L E L.length i).lost = false := fun i => by
    have := congrFun (wrTo_here (fun _ => D) (fun _ => false) L E L.length) i
    unfold hereB at this
    simpa [hD] using this
  apply List.ext_getElem?
  intro j
  by_cases hj : j < L.length
  · rw [rawL, List.getElem?_map, List.getElem?_range hj, List.getElem?_eq_getElem (by rw [hP.len]; exact hj)]
    simp only [Option.map_some, Option.some.injEq]
    obtain ⟨_, hd⟩ := hP.dev j hj
    obtain ⟨_, ha⟩ := hP.at_ j hj
    have hl2 : ∀ i, (flTo (wrTo (fun _ => D) (fun _ => false) L E L.length) (fun _ => false) n i).lost = false := fun i => by
      unfold flTo
      split
      · exact hl1 i
      · exact hl1 i
    have hl3 : (wrTo (flTo (wrTo (fun _ => D) (fun _ => false) L E L.length) (fun _ => false) n) (fun _ => false) L E2 L.length (devN L j)).lost = false := by
      have := congrFun (wrTo_here (flTo (wrTo (fun _ => D) (fun _ => false) L E L.length) (fun _ => false) n) (fun _ => false) L E2 L.length) (devN L j)
      unfold hereB at this
      simpa [hl2] using this
    have hh : hereB (crTo (wrTo (flTo (wrTo (fun _ => D) (fun _ => false) L E L.length) (fun _ => false) n) (fun _ => false) L E2 L.length) n) (fun _ => false) (devN L j) = true := by
      unfold hereB crTo
      rw [if_pos hd, crash_lost_eq, hl3]
      rfl
    have hh1 : hereB (wrTo (fun _ => D) (fun _ => false) L E L.length) (fun _ => false) (devN L j) = true := by
      unfold hereB
      rw [hl1]
      rfl
    have hh0 : hereB (fun _ => D) (fun _ => false) (devN L j) = true := by simp [hereB, hD]
    rw [rawAt, hh, if_pos rfl, crTo, if_pos hd, crash_now, wrTo_med, flTo, if_pos ⟨hd, hh1⟩, flush_med _ _ (by rw [wrTo_med]; omega), wrTo_now hA _ _ _ _ (Nat.le_refl _) j hj, if_pos ⟨hj, hh0⟩, strOf_data, List.getD_eq_getElem?_getD, List.getElem?_eq_getElem (by rw [hP.len]; exact hj)]
    rfl
  · rw [List.getElem?_eq_none (by rw [rawL_len]; omega), List.getElem?_eq_none (by rw [hP.len]; omega)]
end Go.Proofs.Ytlhnmcopioeboaa

/- Spoil, Fresh, New. -/
namespace Go.Proofs.Ytlhnmcopioeboaa
set_option maxRecDepth 100000
open Go.RowKit Go.Maps

/-- What is left of a device of which a sector's text was turned where it reads. -/
def Dv.turn (S : Dv) (k : Nat) (x : Sec) : Dv :=
  if S.since k = [] then { S with med := S.med.set k x } else { S with since := fun i => if i = k then (S.since k).set ((S.since k).length - 1) x else S.since i }
/-- A byte of what a sector reads as is made one with another. -/
def spoilt (s : Sec) (p : Nat) (by_ : UInt8) : Sec := s.set p ((s.getD p 0) ^^^ by_)
theorem DevIn.medCell {w : World} {b mb cb m : Nat} {hd : Nat → Nat × Nat} {S : Dv} {fp : Nat → Prop} (h : DevIn w b mb cb m hd S fp) (k : Nat) (hk : k < S.med.length) (p : Nat) (hp : p < 64) (x : UInt8) :
    DevIn (w.setCell ⟨mb, k * 64 + p, none⟩ (.int .u8 (x.toNat : Int))) b mb cb m hd { S with med := S.med.set k (S.med[k].set p x) } fp := by
  have h2 : ∀ j, j ≠ mb → (w.setCell ⟨mb, k * 64 + p, none⟩ (.int .u8 (x.toNat : Int))).heap[j]? = w.heap[j]? := fun j hj => Below.heap_setCell _ _ _ _ hj
  have e : (S.med.set k (S.med[k].set p x)).length = S.med.length := List.length_set
  refine ⟨⟨by rw [e]; exact h.ok.n1, by rw [e]; exact h.ok.n2, fun i hi => h.ok.out i (by rw [← e]; exact hi), h.ok.left, h.ok.cnts⟩, ?_, ?_, h.map.same (h2 _ h.cmb), h.mle, fun i hi => (h.vers i hi).same (h2 _ (h.apart i hi)), h.inj, h.apart, h.fb, h.fm, h.fc, h.fv, fun j hj => by simpa [World.setCell] using h.lt j hj⟩
  · rw [h2 _ h.bm, h.blk]
    unfold dvCells
    rw [e]
  · have := h.med.setCell k hk p hp x
    show Rows _ mb (S.med.set k (S.med[k].set p x)).length _
    rw [e]
    exact this
theorem DevIn.verCell {w : World} {b mb cb m : Nat} {hd : Nat → Nat × Nat} {S : Dv} {fp : Nat → Prop} (h : DevIn w b mb cb m hd S fp) (k : Nat) (hk : S.since k ≠ []) (i : Nat) (hi : i < (S.since k).length) (p : Nat) (hp : p < 64) (x : UInt8) :
    DevIn (w.setCell ⟨(hd k).1, i * 64 + p, none⟩ (.int .u8 (x.toNat : Int))) b mb cb m hd { S with since := fun j => if j = k then (S.since k).set i ((S.since k)[i].set p x) else S.since j } fp := by
  have h2 : ∀ j, j ≠ (hd k).1 → (w.setCell ⟨(hd k).1, i * 64 + p, none⟩ (.int .u8 (x.toNat : Int))).heap[j]? = w.heap[j]? := fun j hj => Below.heap_setCell _ _ _ _ hj
  have hs : ∀ j, (if j = k then (S.since k).set i ((S.since k)[i].set p x) else S.since j) = [] ↔ S.since j = [] := fun j => by
    by_cases e : j = k
    · subst e; simp
    · simp [e]
  have hl : ∀ j, (if j = k then (S.since k).set i ((S.since k)[i].set p x) else S.since j).length = (S.since j).length := fun j => by
    by_cases e : j = k
    · subst e; simp
    · simp [e]
  refine ⟨⟨h.ok.n1, h.ok.n2, fun j hj => (hs j).2 (h.ok.out j hj), h.ok.left, fun j => ?_⟩, (h2 _ (h.bv k hk)).trans h.blk, h.med.same (h2 _ (h.apart k hk).symm), (h.map.same (h2 _ (h.cv k hk))).congr fun j _ => ?_, h.mle, fun j hj => ?_, fun j j' hj hj' => ?_, fun j hj => ?_, h.fb, h.fm, h.fc, fun j hj => ?_, fun j hj => by simpa [World.setCell] using h.lt j hj⟩
  · simp only [hl]; exact h.ok.cnts j
  · unfold hdOf
    simp only [hs, hl]
  · have hj' : S.since j ≠ [] := fun e => hj ((hs j).2 e)
    by_cases e : j = k
    · subst e
      simp only [if_true]
      exact (h.vers j hj').setCell i hi p hp x
    · simp only [if_neg e]
      exact (h.vers j hj').same (h2 _ fun e' => e (h.inj j k hj' hk e'))
  · exact h.inj j j' (fun e => hj ((hs j).2 e)) (fun e => hj' ((hs j').2 e))
  · exact h.apart j (fun e => hj ((hs j).2 e))
  · exact h.fv j (fun e => hj ((hs j).2 e))
theorem DevIn.turned {w : World} {b mb cb m : Nat} {hd : Nat → Nat × Nat} {S : Dv} {fp : Nat → Prop} (h : DevIn w b mb cb m hd S fp) (k : Nat) (hk : k < S.med.length) (p : Nat) (hp : p < 64) (by_ : UInt8) :
    DevIn (w.setCell ⟨lastG S mb hd k, lastI S k * 64 + p, none⟩ (.int .u8 (((S.now k).getD p 0 ^^^ by_).toNat : Int))) b mb cb m hd (S.turn k (spoilt (S.now k) p by_)) fp := by
  obtain ⟨_, hi, hnow⟩ := last_rows h k hk
  unfold lastG lastI Dv.turn spoilt
  unfold lastL lastI at hi hnow
  by_cases e : S.since k = []
  · simp only [e, if_true] at hi hnow ⊢
    have := h.medCell k hk p hp ((S.now k).getD p 0 ^^^ by_)
    rw [hnow] at this
    exact this
  · simp only [e, if_false] at hi hnow ⊢
    have := h.verCell k e _ hi p hp ((S.now k).getD p 0 ^^^ by_)
    rw [hnow] at this
    exact this
theorem lastFp {w : World} {b mb cb m : Nat} {hd : Nat → Nat × Nat} {S : Dv} {fp : Nat → Prop} (h : DevIn w b mb cb m hd S fp) (k : Nat) : fp (lastG S mb hd k) := by
  unfold lastG
  split
  · exact h.fm
  · rename_i e; exact h.fv k e

theorem bits_xor (a b : UInt8) : bits BinOp.xor IntKind.u8 (a.toNat : Int) (b.toNat : Int) = ((a ^^^ b).toNat : Int) := by
  rw [u8_xor_nat _ _ (UInt8.toNat_lt a) (UInt8.toNat_lt b), UInt8.toNat_xor]
end Go.Proofs.Ytlhnmcopioeboaa

/- Fresh, New. -/
namespace Go.Proofs.Ytlhnmcopioeboaa
set_option maxRecDepth 100000
open Go.RowKit Go.Maps

/-- A sector full of a byte. -/
def fullS (c : UInt8) : Sec := List.replicate 64 c
theorem fullS_len (c : UInt8) : (fullS c).length = 64 := by simp [fullS]
/-- A new device in the place of another one. -/
def Dv.fresh (S : Dv) (c : UInt8) : Dv := { S with med := List.replicate S.med.length (fullS c), since := fun _ => [], lost := false, fused := false, cnt := 0 }
def freshL (S : Dv) (x : Sec) (t : Nat) : List Sec := List.replicate t x ++ S.med.drop t
theorem freshL_len (S : Dv) (x : Sec) (t : Nat) (h : t ≤ S.med.length) : (freshL S x t).length = S.med.length := by simp [freshL]; omega
theorem freshL_zero (S : Dv) (x : Sec) : freshL S x 0 = S.med := by simp [freshL]
theorem freshL_step (S : Dv) (x : Sec) (t : Nat) (h : t < S.med.length) : (freshL S x t).set t x = freshL S x (t + 1) := by
  unfold freshL
  rw [List.set_append_right _ _ (by simp)]
  rw [List.drop_eq_getElem_cons h, List.length_replicate, Nat.sub_self, List.set_cons_zero, List.replicate_succ', List.append_assoc]
  rfl
theorem freshL_end (S : Dv) (c : UInt8) : ({ ({ S with med := freshL S (fullS c) S.med.length } : Dv).bare with lost := false, fused := false } : Dv) = S.fresh c := by
  unfold Dv.bare Dv.fresh freshL
  simp
def FillRel (w : World) (vb : Nat) (c : Int) (u : Value) (wr : World) : Prop :=
  ∃ t : Nat, t ≤ 64 ∧ u = .int .i64 (t : Int) ∧ Below w.heap.size w wr ∧ wr.there vb 0 64 ∧ (∀ j, j < t → wr.cell? ⟨vb, j, none⟩ = some (.int .u8 c)) ∧ w.heap.size < wr.heap.size
def FreshRel (w : World) (b mb cb m vb : Nat) (hd : Nat → Nat × Nat) (S : Dv) (fp : Nat → Prop) (x : Sec) (u : Value) (wr : World) : Prop :=
  ∃ t : Nat, t ≤ S.med.length ∧ u = .int .i64 (t : Int) ∧ DevIn wr b mb cb m hd { S with med := freshL S x t } fp ∧ Turn fp w wr ∧ wr.rangeAt vb 0 (secCells x)
theorem fresh_nil (c : Value) (w : World) :
    Calls Try.prog 50 #[.pointer none, c] w fun e w' => e = .returned (.tuple #[]) ∧ w = w' := by
  go_enter Try.func50, Try.ntmps50
  go_wp2
  exact bodyPost_ret (results_none rfl _ _ _) rfl ⟨rfl, rfl⟩

set_option maxRecDepth 100000 in
set_option maxHeartbeats 1000000 in
theorem fresh_any (b : Nat) (S : Dv) (fp : Nat → Prop) (c : UInt8) (w : World) (h : DevAt w b S fp) :
    Calls Try.prog 50 #[.pointer (some ⟨b, 0, none⟩), .int .u8 (c.toNat : Int)] w fun e w' => e = .returned (.tuple #[]) ∧ Did fp b (S.fresh c) w w' := by
  obtain ⟨mb, cb, m, hd, h⟩ := h
  have H := Lib.hid h
  have hn2 := h.ok.n2
  clear h
  go_enter Try.func50, Try.ntmps50
  go_wp2_with fail
  have hrel0 : FillRel w w.heap.size (c.toNat : Int) (.int .i64 0) (w.alloc (.cells (Array.replicate 64 (.int .u8 0)) 110)) :=
    ⟨0, Nat.zero_le _, rfl, (Below.refl _ w).alloc (Nat.le_refl _) _, there_new _ _ _ _ (by simp), fun j hj => absurd hj (Nat.not_lt_zero _), by simp⟩
  go_loopw [9] (fun u wr => FillRel w w.heap.size (c.toNat : Int) u wr) (fun u _ => 64 - (intOf u).toNat)
  case atStart => exact hrel0
  case round =>
    obtain ⟨t, ht, rfl, hb, hth, hce, hsz⟩ := hrel
    clear hrel0
    by_cases hlt : t < 64
    · obtain ⟨u0, hu0⟩ := Option.isSome_iff_exists.1 (hth t hlt).1
      have hf0 := (hth t hlt).2
      rw [Nat.zero_add] at hu0 hf0
      have HTH := Lib.hid hth
      have HCE := Lib.hid hce
      clear hth hce
      go_wp2
      go_roundw
      case rel =>
        refine ⟨t + 1, by omega, by go_num, hb.setCell (Nat.le_refl _) _, fun j hj => ⟨?_, ?_⟩, fun j hj => ?_, by simpa [World.setCell] using hsz⟩
        · by_cases e : t = j
          · subst e
            rw [Nat.zero_add, World.cell?_setCell_same _ _ _ hu0]; rfl
          · rw [World.cell?_setCell_other _ _ _ _ (by intro h; injection h with _ h _; omega)]
            exact (HTH.out j hj).1
        · rw [World.frozen?_setCell]; exact (HTH.out j hj).2
        · by_cases e : t = j
          · subst e
            rw [World.cell?_setCell_same _ _ _ hu0]
          · rw [World.cell?_setCell_other _ _ _ _ (by intro h; injection h with _ h _; omega)]
            exact HCE.out j (by omega)
      case measure => simp [intOf]; omega
    · obtain rfl : t = 64 := by omega
      have r1 : wr.rangeAt w.heap.size 0 (secCells (fullS c)) := fun j v hv => by
        have hj : j < 64 := by
          have := (List.getElem?_eq_some_iff.1 hv).1
          rw [secCells_len, fullS_len] at this
          exact this
        rw [Nat.zero_add, hce j hj, ← hv, secCells, List.getElem?_map, fullS, List.getElem?_replicate, if_pos hj]
        rfl
      have hd1 := H.out.below hb
      have hvb : ¬ fp w.heap.size := fun e => Nat.lt_irrefl _ (H.out.lt _ e)
      have T1 : Turn fp w wr := Turn.of_below hb
      have HT1 := Lib.hid T1
      have c0 := hd1.c0
      have hrel1 : FreshRel w b mb cb m w.heap.size hd S fp (fullS c) (.int .i64 0) wr := ⟨0, Nat.zero_le _, rfl, by rw [freshL_zero]; exact hd1, T1, r1⟩
      clear hb hth hce hsz T1 hd1 r1
      have HVB := Lib.hid hvb
      clear hvb
      generalize hN : S.med.length = N at *
      have HN := Lib.hid hN
      clear hN ht hlt
      generalize w.heap.size = vb at *
      go_wp2_with fail
      clear c0
      go_loopw [21] (fun u wr => FreshRel w b mb cb m vb hd S fp (fullS c) u wr) (fun u _ => N - (intOf u).toNat)
      case atStart => exact hrel1
      case round =>
        obtain ⟨t, ht, rfl, hdev, hturn, rv⟩ := hrel
        clear hrel1
        by_cases hlt : t < N
        · have hlen : (freshL S (fullS c) t).length = N := by rw [freshL_len S _ t ht]; exact HN.out
          have hk : t < ({ S with med := freshL S (fullS c) t } : Dv).med.length := by show t < (freshL S (fullS c) t).length; rw [hlen]; exact hlt
          have tm := hdev.med.there t hk
          have hD := hdev.drew.medSet t hk (fullS c) (fullS_len c)
          have c0 := hdev.c0
          have cD := hD.c0
          have rD := World.rangeAt_setCells_apart (w := wr.drew) rv mb (t * 64) (secCells (fullS c)) (.inl fun e => HVB.out (e ▸ hdev.fm))
          have tD := World.there_setCells (w := wr.drew) tm mb (t * 64) (secCells (fullS c))
          have T := Lib.hid ((hturn.trans (Turn.of_below (fp := fp) (Below.refl _ wr).drew) fun _ h => .inl h).setCells hdev.fm (t * 64) (secCells (fullS c)))
          simp only at hD
          rw [freshL_step S _ t (by rw [HN.out]; exact hlt)] at hD
          have HDv := Lib.hid hD
          have h1c := secCells_one (fullS c)
          have hl64 : (secCells (fullS c)).length = 64 := by rw [secCells_len, fullS_len]
          have hu := Try.underlying110
          have hi : (Try.prog.info? 110).map (·.size) = some (secCells (fullS c)).length := by
            obtain ⟨i, z, hi, _, hs, _⟩ := info_sec
            rw [hi, hl64, ← hs]; rfl
          simp only [List.length_set] at cD
          simp only at c0
          rw [hlen] at c0 cD
          have HTL : Hid (t + 1 ≤ S.med.length) := by show t + 1 ≤ _; rw [HN.out]; omega
          clear hD hdev hturn hlen hk ht
          unfold FreshRel
          generalize secCells (fullS c) = cs at *
          have q4 : (t : Int) < (N : Int) := by omega
          go_wp2_with fail
          go_region_held3 (fun w' => w'.cell? ⟨b, 0, none⟩ = some (.slice (some ⟨mb, 0, none⟩) N N) ∧ w'.rangeAt vb 0 cs ∧ w'.there mb (t * 64) 64) (first | exact ⟨c0, rv, tm⟩ | exact ⟨cD, rD, tD⟩) (first | fail)
          all_goals
            go_wp2
            go_roundw
            case rel => exact ⟨t + 1, HTL.out, by go_num, HDv.out, T.out, rD⟩
            case measure => simp [intOf]; omega
        · have e : t = N := by rw [HN.out] at ht; omega
          subst e
          have c1 := hdev.c1
          have HD := Lib.hid hdev
          clear hdev rv hlt ht
          go_wp2_with (obtain ⟨w', hr, h3, h4⟩ := wipe_any HD.out _; have c2 := h3.c2; have f2 := h3.fr 2; have c3 := h3.c3; have f3 := h3.fr 3; have H3 := Lib.hid h3; clear h3; refine wpList_clear _ rfl _ _ rfl _ rfl _ hr ?_)
          go_end0
          refine ⟨rfl, Did.of (mb := mb) (cb := cb) (m := 0) (hd := hd) (S := S.fresh c) ?_ (((hturn.trans h4 fun _ h => .inl h).setCell (.inl H3.out.fb) _).setCell (.inl H3.out.fb) _)⟩
          have := (H3.out.set2 false).set3 false
          rw [← freshL_end, HN.out]
          exact this
end Go.Proofs.Ytlhnmcopioeboaa

/- New. -/
namespace Go.Proofs.Ytlhnmcopioeboaa
set_option maxRecDepth 100000
open Go.RowKit Go.Maps

/-- A new device. -/
def newDv (n : Nat) : Dv := { med := List.replicate n (fullS 0), since := fun _ => [], lost := false, fused := false, left := 0, cnt := 0 }
/-- The world behind make([]sector, n). -/
def secsW (w : World) (n : Nat) : World := w.alloc (.cells (madeCells (Array.replicate 64 (.int .u8 0)) (n * 64)) 110)
theorem make_secs (w : World) (n : Nat) (hn : n ≤ 4096) : (Instr.makeSlice 91 (.int .i64 (n : Int)) (.int .i64 (n : Int))).run Try.prog w = .ok (.slice (some ⟨w.heap.size, 0, none⟩) n n) (secsW w n) := by
  obtain ⟨i, h1, h2, h3, h4⟩ := info_parts (P := Try.prog) (e := 110) (z := .agg (Array.replicate 64 (.int .u8 0))) (size := 64) (bytes := 64) (by kernel_rfl)
  have := run_make (P := Try.prog) w 91 110 i _ Try.underlying91 h1 h2 .i64 .i64 n n (by omega) (by omega) (by rw [h4]; omega) (by omega)
  rw [this, h3]
  rfl
theorem full_at (c : UInt8) (j : Nat) (hj : j < 64) : (secCells (fullS c))[j]? = some (.int .u8 (c.toNat : Int)) := by
  rw [secCells, List.getElem?_map, fullS, List.getElem?_replicate, if_pos hj]
  rfl
theorem secsW_rows (w : World) (n : Nat) (hn : n ≤ 4096) : Rows (secsW w n) w.heap.size n (List.replicate n (fullS 0)) := by
  have hh : (secsW w n).heap[w.heap.size]? = some (.cells (madeCells (Array.replicate 64 (.int .u8 0)) (n * 64)) 110 (0, 0)) := heap_alloc_new w _
  refine ⟨⟨_, hh, size_madeCells _ _⟩, fun i hi j hj => ?_, by simp, by unfold maxLen; omega, fun s hs => by rw [(List.mem_replicate.1 hs).2]; exact fullS_len 0⟩
  rw [List.length_replicate] at hi
  rw [List.getElem_replicate]
  unfold World.cell?
  simp only [hh]
  have h1 : i * 64 + j < n * 64 := by omega
  have h2 : (i * 64 + j) % 64 = j := by omega
  rw [full_at 0 j hj]
  simp [madeCells, h1, h2, hj]
theorem secsW_below (w : World) (n : Nat) : Below w.heap.size w (secsW w n) := (Below.refl _ w).alloc (Nat.le_refl _) _

theorem new_no (k : Int) (w : World) (h : k < 1 ∨ 4096 < k) :
    Calls Try.prog 49 #[.int .i64 k] w fun e w' => e = .returned (.tuple #[.pointer none, .int .i64 1]) ∧ w = w' := by
  by_cases h1 : k < 1
  · go_enter Try.func49, Try.ntmps49
    go_wp2
    go_ret2
    exact ⟨rfl, rfl⟩
  · have h2 : 4096 < k := by omega
    have h3 : decide (k < 1) = false := by simpa using h1
    go_enter Try.func49, Try.ntmps49
    go_wp2
    go_ret2
    exact ⟨rfl, rfl⟩
/-- The world behind New. -/
def newW (w : World) (n : Nat) : World := ((secsW w n).alloc (.map #[] 0)).alloc (.cells (dvCells (newDv n) w.heap.size (w.heap.size + 1)) 94)
theorem newW_dev (w : World) (n : Nat) (h1 : 1 ≤ n) (h2 : n ≤ 4096) : DevAt (newW w n) (w.heap.size + 2) (newDv n) (fun k => w.heap.size ≤ k ∧ k < w.heap.size + 3) ∧ Below w.heap.size w (newW w n) := by
  have z1 : (secsW w n).heap.size = w.heap.size + 1 := by simp [secsW]
  have z2 : ((secsW w n).alloc (.map #[] 0)).heap.size = w.heap.size + 2 := by simp [z1]
  have z3 : (newW w n).heap.size = w.heap.size + 3 := by unfold newW; simp [z1]
  have hbel : Below w.heap.size w (newW w n) := ((secsW_below w n).alloc (by omega) _).alloc (by omega) _
  have hl : (newDv n).med.length = n := by simp [newDv]
  have a1 : ∀ k, k < w.heap.size + 1 → (newW w n).heap[k]? = (secsW w n).heap[k]? := fun k hk => by
    unfold newW
    rw [Below.heap_alloc _ _ _ (by omega), Below.heap_alloc _ _ _ (by omega)]
  refine ⟨⟨w.heap.size, w.heap.size + 1, 0, fun _ => (0, 0), ?_⟩, hbel⟩
  refine ⟨⟨by rw [hl]; exact h1, by rw [hl]; exact h2, fun _ _ => rfl, by show 0 < _; omega, fun _ => Nat.le_refl _⟩, ?_, ?_, ?_, Nat.le_refl _, fun i hi => absurd rfl hi, fun i _ hi => absurd rfl hi, fun i hi => absurd rfl hi, ⟨by omega, by omega⟩, ⟨by omega, by omega⟩, ⟨by omega, by omega⟩, fun i hi => absurd rfl hi, fun k hk => by rw [z3]; omega⟩
  · have := heap_alloc_new ((secsW w n).alloc (.map #[] 0)) (.cells (dvCells (newDv n) w.heap.size (w.heap.size + 1)) 94)
    rw [z2] at this
    exact this
  · rw [hl]
    exact (secsW_rows w n h2).same (a1 _ (by omega))
  · have h3 := CMap.made (secsW w n)
    rw [z1] at h3
    refine (h3.same (w' := newW w n) (Below.heap_alloc _ _ _ (by omega))).congr fun k _ => ?_
    unfold hdOf
    rw [if_pos (.inr rfl)]
theorem new_ok (n : Nat) (w : World) (h1 : 1 ≤ n) (h2 : n ≤ 4096) :
    Calls Try.prog 49 #[.int .i64 (n : Int)] w fun e w' => e = .returned (.tuple #[.pointer (some ⟨w.heap.size + 2, 0, none⟩), .int .i64 0]) ∧ DevAt w' (w.heap.size + 2) (newDv n) (fun k => w.heap.size ≤ k ∧ k < w.heap.size + 3) ∧ Below w.heap.size w w' := by
  have hm := make_secs w n h2
  have hmm := @run_makeMap Try.prog
  have h3 : decide ((n : Int) < 1) = false := by simp; omega
  have h4 : decide ((4096 : Int) < (n : Int)) = false := by simp; omega
  have HW := Lib.hid (newW_dev w n h1 h2)
  have z1 : (secsW w n).heap.size = w.heap.size + 1 := by simp [secsW]
  have hl : (newDv n).med.length = n := by simp [newDv]
  have HL := Lib.hid hl
  clear hl
  have e3 : Hid (newW w n = ((secsW w n).alloc (.map #[] 0)).alloc (.cells (dvCells (newDv n) w.heap.size (w.heap.size + 1)) 94)) := rfl
  have e4 : Hid (dvCells (newDv n) w.heap.size (w.heap.size + 1) = #[.slice (some ⟨w.heap.size, 0, none⟩) n n, .map (some (w.heap.size + 1)), .bool false, .bool false, .int .i64 0]) := by
    show dvCells _ _ _ = _
    unfold dvCells
    rw [HL.out]
    rfl
  go_enter Try.func49, Try.ntmps49
  go_wp2
  go_ret2
  rw [← e4.out, ← e3.out]
  exact ⟨rfl, HW.out⟩
end Go.Proofs.Ytlhnmcopioeboaa

/- vdev.New: the groups are cloned; a pool grows device by device. -/
namespace Go.Proofs.Ytlhnmcopioeboaa
set_option maxRecDepth 100000
open Go.RowKit Go.Maps M

def flatG (l : List (Int × Int)) : List Value := l.flatMap fun p => [.int .i64 p.1, .int .i64 p.2]
theorem flatG_len (l : List (Int × Int)) : (flatG l).length = l.length * 2 := by
  induction l with
  | nil => rfl
  | cons p r ih => simp only [flatG, List.flatMap_cons, List.length_append, List.length_cons, List.length_nil] at ih ⊢; omega
theorem flatG_at (l : List (Int × Int)) (i : Nat) (hi : i < l.length) (j : Nat) (hj : j < 2) : (flatG l)[i * 2 + j]? = ([Value.int .i64 l[i].1, .int .i64 l[i].2])[j]? := by
  induction l generalizing i with
  | nil => simp at hi
  | cons s r ih =>
    cases i with
    | zero =>
      simp only [flatG, List.flatMap_cons, List.getElem_cons_zero, Nat.zero_mul, Nat.zero_add]
      rw [List.getElem?_append_left (by simpa using hj)]
    | succ i =>
      simp only [flatG, List.flatMap_cons, List.getElem_cons_succ]
      rw [List.getElem?_append_right (by simp; omega), show (i + 1) * 2 + j - ([Value.int .i64 s.1, .int .i64 s.2]).length = i * 2 + j by simp; omega]
      exact ih i (by simpa using hi)
theorem flatG_one (l : List (Int × Int)) : ∀ v ∈ flatG l, v.oneCell' = true := by
  intro v hv
  obtain ⟨s, _, h⟩ := List.mem_flatMap.1 hv
  simp at h
  rcases h with rfl | rfl <;> rfl
theorem info_grp : ∃ i, Try.prog.info? 53 = some i ∧ i.zero = some (.agg #[.int .i64 0, .int .i64 0]) ∧ i.size = 2 ∧ i.bytes = 16 := info_parts (by kernel_rfl)
theorem grp_nil (w : World) (a : Addr) (n c : Nat) : (binOp .eql 22 (.slice (some a) n c) (.slice none 0 0)).run Try.prog w = .ok (.bool false) w := by kernel_rfl

theorem clone_grp (l : List (Int × Int)) (g o n c : Nat) (w : World) (h : Grps w (some ⟨g, o, none⟩) n l) (h0 : 0 < n) (hm : n ≤ 4) :
    Calls Try.prog 48 #[.slice (some ⟨g, o, none⟩) n c] w fun e w' => ∃ g' c', e = .returned (.slice (some ⟨g', 0, none⟩) n c') ∧ w.heap.size ≤ g' ∧ New w.heap.size w' (fun w => Grps w (some ⟨g', 0, none⟩) n l) ∧ Below w.heap.size w w' := by
  have hq := grp_nil w ⟨g, o, none⟩ n c
  obtain ⟨i, hi, hz, hsz, hb⟩ := info_grp
  have HG := Lib.hid h
  have hl := h.2.1
  have hcell : ∀ j u, (flatG l)[j]? = some u → (w.alloc (.cells #[] 53)).cell? ((⟨g, o, none⟩ : Addr).add j) = some u := fun j u hj => by
    have hlt : j < l.length * 2 := by rw [← flatG_len]; exact (List.getElem?_eq_some_iff.1 hj).1
    obtain ⟨g', o', ha, hx⟩ := h.2.2 (j / 2) (by omega)
    simp only [Option.some.injEq, Addr.mk.injEq, and_true] at ha
    obtain ⟨rfl, rfl⟩ := ha
    have hx' := hx.below (boxed w (.cells #[] 53))
    have e := flatG_at l (j / 2) (by omega) (j % 2) (Nat.mod_lt _ (by decide))
    rw [show j / 2 * 2 + j % 2 = j by omega, hj] at e
    rw [Go.WideShapes.add_plain, e]
    rcases Nat.mod_two_eq_zero_or_one j with e2 | e2
    · rw [e2, show o + j = o + j / 2 * 2 by omega, hx'.c0]; rfl
    · rw [e2, show o + j = o + j / 2 * 2 + 1 by omega, hx'.c1]; rfl
  have HC := Lib.hid hcell
  have hown : (w.alloc (.cells #[] 53)).ownsRow w.heap.size 53 2 (.slice (some ⟨w.heap.size, 0, none⟩) 0 0) 0 [] := by
    have := World.ownsRow_lit (base := w.heap.size) (e := 53) (size := 2) w #[] 0 (Nat.le_refl _) (by decide) (by simp)
    simpa using this
  have HO := Lib.hid hown
  have HL := Lib.hid hl
  clear h hcell hown hl
  go_enter Try.func48, Try.ntmps48
  go_wp2_with (at_builtin; refine wpList_append_own_at _ rfl _ _ _ rfl w.heap.size 53 i _ 2 16 Try.underlying22 hi hz hsz hb rfl (by decide) _ 0 [] rfl HO.out ⟨g, o, none⟩ n c (flatG l) rfl (by rw [flatG_len, HL.out]) HC.out (flatG_one l) (by unfold maxLen; omega) (by omega) (by simp) ?_; intro v4 w4 hO4 hg4 _ _)
  have hb4 : Below w.heap.size w w4 := (boxed w _).trans ((Below.refl w.heap.size _).grown hg4 (by simp) fun k hk => (World.ownsRow.lt HO.out k hk).1)
  have HB4 := Lib.hid hb4
  rw [Nat.zero_add, List.nil_append] at hO4
  have hcl := fun g hg => World.ownsRow.cells (g := g) hO4 hg
  rcases hO4.2 with ⟨_, hn0⟩ | ⟨g', cap, cur, rfl, hgB, hgh, hnc, _⟩
  · omega
  · have hcl := hcl g' rfl
    have HN : Hid (New w.heap.size w4 (fun w => Grps w (some ⟨g', 0, none⟩) n l)) := Lib.hid fun w' hz hbk => by
      obtain ⟨g1, g2, g3⟩ := HG.out
      have hlt := (Array.getElem?_eq_some_iff.1 hgh).1
      have hc : ∀ j u, (flatG l)[j]? = some u → w'.cell? ⟨g', j, none⟩ = some u := fun j u hj => by
        have := hcl j u hj
        rw [Go.WideShapes.add_plain, Nat.zero_add] at this
        rw [World.cell?_of_block (w := w4) (hbk g' hgB hlt)]
        exact this
      refine ⟨g1, g2, fun i hi => ?_⟩
      obtain ⟨_, _, _, hx⟩ := g3 i hi
      refine ⟨g', 0, rfl, Nat.lt_of_lt_of_le hlt hz, ?_, ?_, hx.k0, hx.k1, hx.w0, hx.w1⟩
      · have := flatG_at l i hi 0 (by omega)
        rw [Nat.add_zero] at this
        rw [Nat.zero_add]
        exact hc _ _ this
      · have := flatG_at l i hi 1 (by omega)
        rw [Nat.zero_add]
        exact hc _ _ this
    have HGB := Lib.hid hgB
    clear hcl hO4 hgh hg4 hb4
    go_wp2
    go_ret
    exact ⟨_, _, rfl, HGB.out, HN.out, HB4.out⟩

/-- A pool's next device. -/
theorem StG.grow {m : Nat} {X : Nat → Prop} {B : Nat} {w w' : World} {x : Px} {l : List (Int × Int)} {ds : Nat → Dv} {aw : Nat → Bool} {K : Nat} {P : World → Prop} (h : StG m X B w x l ds aw K P) (hb : Below w.heap.size w w') {b : Nat} {S : Dv} {f : Nat → Prop} (hd : DevAt w' b S f) (hf : ∀ k, f k → w.heap.size ≤ k)
    {u : Value} (hc : w'.cell? ⟨x.lb, m, none⟩ = some u) (hz : w'.frozen? ⟨x.lb, m, none⟩ = false) (hg : DGood x.sc K S) :
    StG (m + 1) X B (w'.setCell ⟨x.lb, m, none⟩ (.pointer (some ⟨b, 0, none⟩))) x l (upd ds m S) aw K P := by
  have hB := h.lt.2
  have h' := h.below hb
  obtain ⟨fp, F, bs, h⟩ := h
  have hF : ∀ i k, i < m → F i k → k < w.heap.size := fun i k hi hk => h.lt k (h.fpF i k hi hk)
  have hfl : ∀ k, f k → k < w'.heap.size := fun k hk => by
    obtain ⟨_, _, _, _, hin⟩ := hd
    exact hin.lt k hk
  have hlb : x.lb < w.heap.size := h.lt _ h.fpl
  have hab : x.ab < w.heap.size := h.lt _ h.fpa
  have ho : ∀ k, k ≠ x.lb → (w'.setCell ⟨x.lb, m, none⟩ (.pointer (some ⟨b, 0, none⟩))).heap[k]? = w'.heap[k]? := fun k hk => Below.heap_setCell _ _ _ _ hk
  have hsz : (w'.setCell ⟨x.lb, m, none⟩ (.pointer (some ⟨b, 0, none⟩))).heap.size = w'.heap.size := by simp [World.setCell]
  have hle := hb.size
  have t : Turn fp w (w'.setCell ⟨x.lb, m, none⟩ (.pointer (some ⟨b, 0, none⟩))) := (Turn.of_below (fp := fp) hb).setCell (.inl h.fpl) _
  refine ⟨fun k => fp k ∨ f k, upd F m f, upd bs m b, ⟨?_, (h.awy.same (hb.block _ hab)).same (ho _ h.lbab.symm), fun j hj => ?_, fun j hj => ?_, ?_, fun j hj => ?_, fun j hj => ?_, h.lbab, fun j k hj hk => ?_, .inl h.fpl, .inl h.fpa, fun k hk => ?_, fun k hk => ?_, fun k hk => .inl (h.xfp k hk), fun j k hj hk => ?_, h.xl, h.xa, h.keep.turn (t.mono fun _ hk => .inl hk) fun k hk => ?_⟩⟩
  · refine ⟨fun i hi => ?_, fun i hi => ?_⟩
    · by_cases e : i = m
      · subst e
        rw [World.cell?_setCell_same _ _ _ hc, upd_same]
      · rw [World.cell?_setCell_other _ _ _ _ (by intro h; apply e; cases h; rfl), upd_other _ _ e, (h.ptr.same (hb.block _ hlb)).c i (by omega)]
    · rw [World.frozen?_setCell]
      by_cases e : i = m
      · subst e; exact hz
      · exact (h.ptr.same (hb.block _ hlb)).fz i (by omega)
  · by_cases e : j = m
    · subst e
      rw [upd_same, upd_same, upd_same]
      exact hd.same (by rw [hsz]; exact Nat.le_refl _) fun k hk => ho k fun e => by have := hf k hk; omega
    · rw [upd_other _ _ e, upd_other _ _ e, upd_other _ _ e]
      exact (h.dev j (by omega)).same (by rw [hsz]; exact hle) fun k hk => (ho k fun e2 => h.lbF j (by omega) (e2 ▸ hk)).trans (hb.block k (hF j k (by omega) hk))
  · by_cases e : j = m
    · subst e; rw [upd_same]; exact hg
    · rw [upd_other _ _ e]; exact h.good j (by omega)
  · intro a c k ha hc h1 h2
    by_cases ea : a = m
    · by_cases ec : c = m
      · rw [ea, ec]
      · subst ea
        rw [upd_same] at h1
        rw [upd_other _ _ ec] at h2
        have := hf k h1
        have := hF c k (by omega) h2
        omega
    · rw [upd_other _ _ ea] at h1
      by_cases ec : c = m
      · subst ec
        rw [upd_same] at h2
        have := hf k h2
        have := hF a k (by omega) h1
        omega
      · rw [upd_other _ _ ec] at h2
        exact h.apart a c k (by omega) (by omega) h1 h2
  · by_cases e : j = m
    · subst e; rw [upd_same]; intro e2; have := hf _ e2; omega
    · rw [upd_other _ _ e]; exact h.lbF j (by omega)
  · by_cases e : j = m
    · subst e; rw [upd_same]; intro e2; have := hf _ e2; omega
    · rw [upd_other _ _ e]; exact h.abF j (by omega)
  · by_cases e : j = m
    · subst e; rw [upd_same] at hk; exact .inr hk
    · rw [upd_other _ _ e] at hk; exact .inl (h.fpF j k (by omega) hk)
  · rw [hsz]
    rcases hk with hk | hk
    · exact Nat.lt_of_lt_of_le (h.lt k hk) hle
    · exact hfl k hk
  · rcases hk with hk | hk
    · exact h.ge k hk
    · have := hf k hk; omega
  · by_cases e : j = m
    · subst e; rw [upd_same]; intro e2; have := hf _ e2; have := h.lt _ (h.xfp k hk); omega
    · rw [upd_other _ _ e]; exact h.xF j k (by omega) hk
  · rcases hk with (hk | hk) | hk
    · exact .inl (.inl hk)
    · exact .inr (hf k hk)
    · exact .inl (.inr hk)
/-- A pool of no devices yet. -/
theorem StG.start {X : Nat → Prop} {B : Nat} {w : World} {x : Px} {l : List (Int × Int)} {ds : Nat → Dv} {aw : Nat → Bool} {P : World → Prop} (hA : RowV w x.ab x.n (fun i => .bool (aw i))) (hne : x.lb ≠ x.ab) (l1 : x.lb < w.heap.size) (l2 : x.ab < w.heap.size) (g1 : B ≤ x.lb) (g2 : B ≤ x.ab)
    (xl : ¬ X x.lb) (xa : ¬ X x.ab) (xlt : ∀ k, X k → k < w.heap.size) (xge : ∀ k, X k → B ≤ k) (hk : Keep (fun k => (k = x.lb ∨ k = x.ab ∨ X k) ∨ k < B) w (fun w => Meas w x.g l x.sc ∧ P w)) : StG 0 X B w x l ds aw 0 P :=
  ⟨fun k => k = x.lb ∨ k = x.ab ∨ X k, fun _ _ => False, fun _ => 0, ⟨⟨fun i hi => absurd hi (Nat.not_lt_zero _), fun i hi => absurd hi (Nat.not_lt_zero _)⟩, hA, fun i hi => absurd hi (Nat.not_lt_zero _), fun i hi => absurd hi (Nat.not_lt_zero _), fun i _ _ hi => absurd hi (Nat.not_lt_zero _), fun i hi => absurd hi (Nat.not_lt_zero _), fun i hi => absurd hi (Nat.not_lt_zero _), hne, fun i _ hi => absurd hi (Nat.not_lt_zero _), .inl rfl, .inr (.inl rfl),
    fun k hk => by rcases hk with rfl | rfl | hk; exact l1; exact l2; exact xlt k hk, fun k hk => by rcases hk with rfl | rfl | hk; exact g1; exact g2; exact xge k hk, fun k hk => .inr (.inr hk), fun i _ hi => absurd hi (Nat.not_lt_zero _), xl, xa, hk⟩⟩
end Go.Proofs.Ytlhnmcopioeboaa

/- vdev.New: the walk. -/
namespace Go.Proofs.Ytlhnmcopioeboaa
set_option maxRecDepth 100000
open Go.RowKit Go.Maps M

def ptrsO (n : Nat) : Obj := .cells (madeCells #[.pointer none] n) 60
def marksO (n : Nat) : Obj := .cells (madeCells #[.bool false] n) 4
theorem make_ptrs (w : World) (n : Nat) (hn : n ≤ 4096) : (Instr.makeSlice 29 (.int .i64 (n : Int)) (.int .i64 (n : Int))).run Try.prog w = .ok (.slice (some ⟨w.heap.size, 0, none⟩) n n) (w.alloc (ptrsO n)) := by
  obtain ⟨i, hi, hz, hs, hb⟩ := info_parts (P := Try.prog) (e := 60) (z := .pointer none) (size := 1) (bytes := 8) (by kernel_rfl)
  have := run_make (P := Try.prog) w 29 60 i _ Try.underlying29 hi hz .i64 .i64 n n (by omega) (by omega) (by rw [hb]; omega) (by omega)
  rw [this, hs, Nat.mul_one]
  rfl
theorem make_marks (w : World) (n : Nat) (hn : n ≤ 4096) : (Instr.makeSlice 30 (.int .i64 (n : Int)) (.int .i64 (n : Int))).run Try.prog w = .ok (.slice (some ⟨w.heap.size, 0, none⟩) n n) (w.alloc (marksO n)) := by
  obtain ⟨i, hi, hz, hs, hb⟩ := info_parts (P := Try.prog) (e := 4) (z := .bool false) (size := 1) (bytes := 1) (by kernel_rfl)
  have := run_make (P := Try.prog) w 30 4 i _ Try.underlying30 hi hz .i64 .i64 n n (by omega) (by omega) (by rw [hb]; omega) (by omega)
  rw [this, hs, Nat.mul_one]
  rfl
/-- What a pool's measure, its slices and its box are, as far as they are made. -/
structure Prog (w4 : World) (l : List (Int × Int)) (gn N : Nat) (V : World) (lb ab : Option Nat) (gg : Option Nat) (bx : Option (Nat × Array Value)) : Prop where
  bel : Below w4.heap.size w4 V
  pl : ∀ b, lb = some b → V.heap[b]? = some (ptrsO N) ∧ w4.heap.size ≤ b
  pa : ∀ b, ab = some b → V.heap[b]? = some (marksO N) ∧ w4.heap.size ≤ b
  pg : ∀ p, gg = some p → Grps V (some ⟨p, 0, none⟩) gn l ∧ p < V.heap.size ∧ w4.heap.size ≤ p
  pb : ∀ p, bx = some p → V.heap[p.1]? = some (.cells p.2 32) ∧ w4.heap.size ≤ p.1
  nl : ∀ p b, gg = some p → lb = some b → p ≠ b
  na : ∀ p b, gg = some p → ab = some b → p ≠ b
  nb : ∀ p q, gg = some p → bx = some q → p ≠ q.1
theorem lt_of_some {V : World} {b : Nat} {o : Obj} (h : V.heap[b]? = some o) : b < V.heap.size := (Array.getElem?_eq_some_iff.1 h).1
section
variable {w4 V V' : World} {l : List (Int × Int)} {gn N : Nat} {lb ab : Option Nat} {gg : Option Nat} {bx : Option (Nat × Array Value)}
theorem Prog.next (h : Prog w4 l gn N V lb ab gg bx) (hb : Below V.heap.size V V') : Prog w4 l gn N V' lb ab gg bx :=
  ⟨Proofs.Ytlhnmcopioeboaa.next h.bel hb, fun b e => ⟨(hb.block b (lt_of_some (h.pl b e).1)).trans (h.pl b e).1, (h.pl b e).2⟩, fun b e => ⟨(hb.block b (lt_of_some (h.pa b e).1)).trans (h.pa b e).1, (h.pa b e).2⟩, fun p e => ⟨(h.pg p e).1.below hb, Nat.lt_of_lt_of_le (h.pg p e).2.1 hb.size, (h.pg p e).2.2⟩, fun p e => ⟨(hb.block p.1 (lt_of_some (h.pb p e).1)).trans (h.pb p e).1, (h.pb p e).2⟩, h.nl, h.na, h.nb⟩
theorem p_none (hb : Below w4.heap.size w4 V) : Prog w4 l gn N V none none none none := ⟨hb, (fun _ e => nomatch e), (fun _ e => nomatch e), (fun _ e => nomatch e), (fun _ e => nomatch e), (fun _ _ e => nomatch e), (fun _ _ e => nomatch e), (fun _ _ e => nomatch e)⟩
theorem p_drew (h : Prog w4 l gn N V lb ab gg bx) : Prog w4 l gn N V.drew lb ab gg bx := h.next (Below.refl _ V).drew
theorem p_ptrs (h : Prog w4 l gn N V none ab gg bx) : Prog w4 l gn N (V.alloc (ptrsO N)) (some V.heap.size) ab gg bx := by
  have h' := h.next (boxed V (ptrsO N))
  exact ⟨h'.bel, fun b e => by cases e; exact ⟨heap_alloc_new V _, h.bel.size⟩, h'.pa, h'.pg, h'.pb, fun p b e1 e2 => by cases e2; have := (h.pg p e1).2.1; omega, h.na, h.nb⟩
theorem p_marks (h : Prog w4 l gn N V lb none gg bx) : Prog w4 l gn N (V.alloc (marksO N)) lb (some V.heap.size) gg bx := by
  have h' := h.next (boxed V (marksO N))
  exact ⟨h'.bel, h'.pl, fun b e => by cases e; exact ⟨heap_alloc_new V _, h.bel.size⟩, h'.pg, h'.pb, h.nl, fun p b e1 e2 => by cases e2; have := (h.pg p e1).2.1; omega, h.nb⟩
theorem p_box {b : Nat} {cs : Array Value} (h : Prog w4 l gn N V lb ab gg none) (hb : b = V.heap.size) : Prog w4 l gn N (V.alloc (.cells cs 32)) lb ab gg (some (b, cs)) := by
  subst hb
  have h' := h.next (boxed V (.cells cs 32))
  exact ⟨h'.bel, h'.pl, h'.pa, h'.pg, fun p e => by cases e; exact ⟨heap_alloc_new V _, h.bel.size⟩, h.nl, h.na, fun p q e1 e2 => by cases e2; have := (h.pg p e1).2.1; show p ≠ V.heap.size; omega⟩
theorem p_clone {g' : Nat} (h : Prog w4 l gn N V lb ab none bx) (hb : Below V.heap.size V V') (hn : New V.heap.size V' (fun w => Grps w (some ⟨g', 0, none⟩) gn l)) (hg : V.heap.size ≤ g' ∧ g' < V'.heap.size) : Prog w4 l gn N V' lb ab (some g') bx := by
  have h' := h.next hb
  refine ⟨h'.bel, h'.pl, h'.pa, fun p e => by cases e; exact ⟨hn.out, hg.2, Nat.le_trans h.bel.size hg.1⟩, h'.pb, fun p b e1 e2 => ?_, fun p b e1 e2 => ?_, fun p q e1 e2 => ?_⟩
  · cases e1
    have := lt_of_some (h.pl b e2).1
    show g' ≠ b
    omega
  · cases e1
    have := lt_of_some (h.pa b e2).1
    show g' ≠ b
    omega
  · cases e1
    have := lt_of_some (h.pb q e2).1
    show g' ≠ q.1
    omega
theorem p_sets {b : Nat} {v0 v1 v2 v3 : Value} (h : Prog w4 l gn N V lb ab gg (some (b, #[.slice none 0 0, .int .i64 0, .slice none 0 0, .slice none 0 0]))) : Prog w4 l gn N ((((V.setCell ⟨b, 0, none⟩ v0).setCell ⟨b, 1, none⟩ v1).setCell ⟨b, 2, none⟩ v2).setCell ⟨b, 3, none⟩ v3) lb ab gg (some (b, #[v0, v1, v2, v3])) := by
  obtain ⟨hb, hge⟩ := h.pb _ rfl
  have ho : ∀ k, k ≠ b → ((((V.setCell ⟨b, 0, none⟩ v0).setCell ⟨b, 1, none⟩ v1).setCell ⟨b, 2, none⟩ v2).setCell ⟨b, 3, none⟩ v3).heap[k]? = V.heap[k]? := fun k hk => by
    rw [Below.heap_setCell _ _ _ _ hk, Below.heap_setCell _ _ _ _ hk, Below.heap_setCell _ _ _ _ hk, Below.heap_setCell _ _ _ _ hk]
  have hz : ((((V.setCell ⟨b, 0, none⟩ v0).setCell ⟨b, 1, none⟩ v1).setCell ⟨b, 2, none⟩ v2).setCell ⟨b, 3, none⟩ v3).heap.size = V.heap.size := by simp [World.setCell]
  have hnew : ((((V.setCell ⟨b, 0, none⟩ v0).setCell ⟨b, 1, none⟩ v1).setCell ⟨b, 2, none⟩ v2).setCell ⟨b, 3, none⟩ v3).heap[b]? = some (.cells #[v0, v1, v2, v3] 32) := by
    simp only [World.setCell, Array.getElem?_modify, hb]
    simp
  refine ⟨grows_set (grows_set (grows_set (grows_set h.bel hge _) hge _) hge _) hge _, fun k e => ?_, fun k e => ?_, fun p e => ?_, fun p e => ?_, h.nl, h.na, fun p q e1 e2 => ?_⟩
  · obtain ⟨h1, h2⟩ := h.pl k e
    refine ⟨(ho k fun e2 => ?_).trans h1, h2⟩
    rw [e2, hb] at h1
    simp only [ptrsO, Option.some.injEq, Obj.cells.injEq] at h1
    exact absurd h1.2.1 (by decide)
  · obtain ⟨h1, h2⟩ := h.pa k e
    refine ⟨(ho k fun e2 => ?_).trans h1, h2⟩
    rw [e2, hb] at h1
    simp only [marksO, Option.some.injEq, Obj.cells.injEq] at h1
    exact absurd h1.2.1 (by decide)
  · obtain ⟨⟨g1, g2, g3⟩, h2⟩ := h.pg p e
    have hne : p ≠ b := h.nb p _ e rfl
    refine ⟨⟨g1, g2, fun i hi => ?_⟩, by rw [hz]; exact h2.1, h2.2⟩
    obtain ⟨g, o, ha, hx⟩ := g3 i hi
    have hg : g = p := by simp only [Option.some.injEq, Addr.mk.injEq, and_true] at ha; exact ha.1.symm
    have e2 : ∀ j, ((((V.setCell ⟨b, 0, none⟩ v0).setCell ⟨b, 1, none⟩ v1).setCell ⟨b, 2, none⟩ v2).setCell ⟨b, 3, none⟩ v3).cell? ⟨g, j, none⟩ = V.cell? ⟨g, j, none⟩ := fun j => World.cell?_of_block (ho g (by rw [hg]; exact hne))
    exact ⟨g, o, ha, by rw [hz]; exact hx.lt, (e2 _).trans hx.c0, (e2 _).trans hx.c1, hx.k0, hx.k1, hx.w0, hx.w1⟩
  · cases e
    exact ⟨hnew, hge⟩
  · cases e2
    show p ≠ b
    exact h.nb p (b, #[.slice none 0 0, .int .i64 0, .slice none 0 0, .slice none 0 0]) e1 rfl
end
theorem row_ptrs {V : World} {n g : Nat} (h : V.heap[g]? = some (ptrsO n)) : RowV V g n (fun _ => .pointer none) := by
  unfold ptrsO at h
  exact ⟨fun i hi => by simp [World.cell?, h, madeCells, hi, Nat.mod_one], fun i hi => by simp [World.frozen?, h]⟩
theorem row_marks {V : World} {n g : Nat} (h : V.heap[g]? = some (marksO n)) : RowV V g n (fun _ => .bool false) := by
  unfold marksO at h
  exact ⟨fun i hi => by simp [World.cell?, h, madeCells, hi, Nat.mod_one], fun i hi => by simp [World.frozen?, h]⟩
theorem sets4 {V : World} {b : Nat} {t : TypeId} {u0 u1 u2 u3 : Value} (v0 v1 v2 v3 : Value) (hb : V.heap[b]? = some (.cells #[u0, u1, u2, u3] t)) : ((((V.setCell ⟨b, 0, none⟩ v0).setCell ⟨b, 1, none⟩ v1).setCell ⟨b, 2, none⟩ v2).setCell ⟨b, 3, none⟩ v3).heap[b]? = some (.cells #[v0, v1, v2, v3] t) := by
  simp only [World.setCell, Array.getElem?_modify, hb]
  simp
theorem turn4 (V : World) (b : Nat) (v0 v1 v2 v3 : Value) : Turn (fun k => k = b) V ((((V.setCell ⟨b, 0, none⟩ v0).setCell ⟨b, 1, none⟩ v1).setCell ⟨b, 2, none⟩ v2).setCell ⟨b, 3, none⟩ v3) := by
  have h0 : Turn (fun k => k = b) V V := Turn.refl _ V
  have h1 := h0.setCell (p := ⟨b, 0, none⟩) (.inl rfl) v0
  have h2 := h1.setCell (p := ⟨b, 1, none⟩) (.inl rfl) v1
  have h3 := h2.setCell (p := ⟨b, 2, none⟩) (.inl rfl) v2
  exact h3.setCell (p := ⟨b, 3, none⟩) (.inl rfl) v3
/-- What New has made ahead of its devices. -/
def NewRel (w4 : World) (l : List (Int × Int)) (sc : Int) (gn N : Nat) (s7 : Value) (wc : World) : Prop :=
  ∃ bx lb ab g' c', s7 = .pointer (some ⟨bx, 0, none⟩) ∧ BoxX ⟨some ⟨g', 0, none⟩, gn, c', sc, lb, N, ab⟩ bx wc ∧ RowV wc lb N (fun _ => .pointer none) ∧ RowV wc ab N (fun _ => .bool false) ∧ Grps wc (some ⟨g', 0, none⟩) gn l ∧
    (lb ≠ ab ∧ bx ≠ lb ∧ bx ≠ ab ∧ g' ≠ lb ∧ g' ≠ ab ∧ w4.heap.size ≤ lb ∧ w4.heap.size ≤ ab ∧ w4.heap.size ≤ bx ∧ lb < wc.heap.size ∧ ab < wc.heap.size ∧ w4.heap.size ≤ g') ∧ Below w4.heap.size w4 wc
theorem prog_done {w4 V : World} {l : List (Int × Int)} {sc : Int} {gn N lb ab g' c' b : Nat} {v0 v1 v2 v3 s7 : Value} (h : Prog w4 l gn N V (some lb) (some ab) (some g') (some (b, #[v0, v1, v2, v3])))
    (e0 : v0 = .slice (some ⟨g', 0, none⟩) gn c') (e1 : v1 = .int .i64 sc) (e2 : v2 = .slice (some ⟨lb, 0, none⟩) N N) (e3 : v3 = .slice (some ⟨ab, 0, none⟩) N N) (e : s7 = .pointer (some ⟨b, 0, none⟩)) : NewRel w4 l sc gn N s7 V := by
  subst e0 e1 e2 e3 e
  obtain ⟨hl, hl'⟩ := h.pl _ rfl
  obtain ⟨ha, ha'⟩ := h.pa _ rfl
  obtain ⟨hg, hg'⟩ := h.pg _ rfl
  obtain ⟨hb, hb'⟩ := h.pb _ rfl
  refine ⟨b, lb, ab, g', c', rfl, ⟨by simp [World.cell?, hb], by simp [World.cell?, hb], by simp [World.cell?, hb], by simp [World.cell?, hb]⟩, row_ptrs hl, row_marks ha, hg, ⟨fun e => ?_, fun e => ?_, fun e => ?_, h.nl _ _ rfl rfl, h.na _ _ rfl rfl, hl', ha', hb', lt_of_some hl, lt_of_some ha, hg'.2⟩, h.bel⟩
  · rw [e, ha] at hl
    simp only [ptrsO, marksO, Option.some.injEq, Obj.cells.injEq] at hl
    exact absurd hl.2.1 (by decide)
  · subst e
    rw [hl] at hb
    simp only [ptrsO, Option.some.injEq, Obj.cells.injEq] at hb
    exact absurd hb.2.1 (by decide)
  · subst e
    rw [ha] at hb
    simp only [marksO, Option.some.injEq, Obj.cells.injEq] at hb
    exact absurd hb.2.1 (by decide)

end Go.Proofs.Ytlhnmcopioeboaa

/- vdev.New: the walk. -/
namespace Go.Proofs.Ytlhnmcopioeboaa
set_option maxRecDepth 100000
open Go.RowKit Go.Maps M

set_option maxHeartbeats 8000000 in
theorem new8_ok (l : List (Int × Int)) (sc : Int) (v : Value) (w : World) (h : Meas w v l sc) (hr : RightM l sc) (fill : UInt8) :
    Calls Try.prog 25 #[v, .int .u8 (fill.toNat : Int)] w fun e w' => ∃ x : Px, e = .returned (.tuple #[x.val, .int .i64 0]) ∧ x.sc = sc ∧ St w.heap.size w' x l (fun _ => (newDv sc.toNat).fresh fill) (fun _ => false) 0 (fun _ => True) ∧ Below w.heap.size w w' := by
  obtain ⟨a, gn, gc, rfl, hg, hs0, hs1⟩ := id h
  obtain ⟨N, hN⟩ : ∃ N : Nat, devsL l sc = (N : Int) := by
    have := hr.bounds l.length (Nat.le_refl _)
    unfold devsL
    rw [rightM_iff.2 hr, if_pos rfl]
    exact ⟨(aheadL l l.length).toNat, by omega⟩
  obtain ⟨hN1, hN32⟩ := hr.devs hN
  have hgn : l.length = gn := hg.2.1
  have hgn0 := hr.pos
  have hgn4 := hr.few
  obtain ⟨g, o, rfl, hgl⟩ := hg.2.2 0 hgn0
  have b1 := boxed w (.cells #[.slice (some ⟨g, o, none⟩) gn gc, .int .i64 sc] 24)
  have b2 := boxed (w.alloc (.cells #[.slice (some ⟨g, o, none⟩) gn gc, .int .i64 sc] 24)) (.cells #[.slice none 0 0, .int .i64 0, .slice none 0 0, .slice none 0 0] 32)
  have bb := next b1 b2
  have c0 : ((w.alloc (.cells #[.slice (some ⟨g, o, none⟩) gn gc, .int .i64 sc] 24)).alloc (.cells #[.slice none 0 0, .int .i64 0, .slice none 0 0, .slice none 0 0] 32)).cell? ⟨w.heap.size, 0, none⟩ = some (.slice (some ⟨g, o, none⟩) gn gc) := by rw [b2.cell (p := ⟨w.heap.size, 0, none⟩) (by simp)]; simp
  have c1 : ((w.alloc (.cells #[.slice (some ⟨g, o, none⟩) gn gc, .int .i64 sc] 24)).alloc (.cells #[.slice none 0 0, .int .i64 0, .slice none 0 0, .slice none 0 0] 32)).cell? ⟨w.heap.size, 1, none⟩ = some (.int .i64 sc) := by rw [b2.cell (p := ⟨w.heap.size, 1, none⟩) (by simp)]; simp
  have hres : ((w.alloc (.cells #[.slice (some ⟨g, o, none⟩) gn gc, .int .i64 sc] 24)).alloc (.cells #[.slice none 0 0, .int .i64 0, .slice none 0 0, .slice none 0 0] 32)).heap[w.heap.size + 1]? = some (.cells #[.slice none 0 0, .int .i64 0, .slice none 0 0, .slice none 0 0] 32) := by
    have := heap_alloc_new (w.alloc (.cells #[.slice (some ⟨g, o, none⟩) gn gc, .int .i64 sc] 24)) (.cells #[.slice none 0 0, .int .i64 0, .slice none 0 0, .slice none 0 0] 32)
    simpa using this
  have hz2 : ((w.alloc (.cells #[.slice (some ⟨g, o, none⟩) gn gc, .int .i64 sc] 24)).alloc (.cells #[.slice none 0 0, .int .i64 0, .slice none 0 0, .slice none 0 0] 32)).heap.size = w.heap.size + 2 := by simp
  generalize hw2 : (w.alloc (.cells #[.slice (some ⟨g, o, none⟩) gn gc, .int .i64 sc] 24)).alloc (.cells #[.slice none 0 0, .int .i64 0, .slice none 0 0, .slice none 0 0] 32) = w2 at b2 bb c0 c1 hres hz2
  have HW2 := Lib.hid hw2
  have HM := Lib.hid (h.below bb)
  have HRI := Lib.hid (right_any l sc _ w2 HM.out true (rightM_iff.2 hr))
  have HR := Lib.hid hr
  have HDN := Lib.hid hN
  have HBB := Lib.hid bb
  have HRES := Lib.hid hres
  clear h hg b1 b2 bb hr hN hgl hw2 hres
  go_enter Try.func25, Try.ntmps25
  go_wp2_with (first | (rw [HW2.out]; fail))
  rw [HW2.out]
  go_wp2_with fail
  refine HRI.out.mono ?_
  rintro e w3 ⟨rfl, b3⟩
  have HD := Lib.hid (devs_any l sc _ w3 (HM.out.below b3) (N : Int) HDN.out)
  have c0' := (b3.cell (p := ⟨w.heap.size, 0, none⟩) (by simp; omega)).trans c0
  have c1' := (b3.cell (p := ⟨w.heap.size, 1, none⟩) (by simp; omega)).trans c1
  go_wp2_with fail
  refine HD.out.mono ?_
  rintro e w4 ⟨rfl, b4⟩
  have b34 := next b3 b4
  have HM4 := Lib.hid (HM.out.below b34)
  have d0 := (b34.cell (p := ⟨w.heap.size, 0, none⟩) (by simp; omega)).trans c0
  have d1 := (b34.cell (p := ⟨w.heap.size, 1, none⟩) (by simp; omega)).trans c1
  have HB4 := Lib.hid (next HBB.out b34)
  have HRES4 := Lib.hid ((b34.block (w.heap.size + 1) (by omega)).trans HRES.out)
  have hz4 : w.heap.size + 2 ≤ w4.heap.size := by have := b34.size; omega
  clear c0 c1 c0' c1' b3 b4 b34 HM HD HRI HBB HRES
  go_upto_region 4 with (fail)
  go_cut [7] (fun s7 wc => NewRel w4 l sc gn N s7 wc)
  case first =>
    have hS0 : Below w4.heap.size w4 w4.drew := (Below.refl _ w4).drew
    have mk1 := fun V => make_ptrs V N (by omega)
    have mk2 := fun V => make_marks V N (by omega)
    have l0 : w.heap.size < w4.heap.size := by omega
    have HA : Hid (∀ W : World, Below w4.heap.size w4 W → W.cell? ⟨w.heap.size, 0, none⟩ = some (.slice (some ⟨g, o, none⟩) gn gc) ∧ W.cell? ⟨w.heap.size, 1, none⟩ = some (.int .i64 sc) ∧ Below w4.heap.size w4 W) := Lib.hid fun W hb =>
      ⟨(hb.cell (p := ⟨w.heap.size, 0, none⟩) l0).trans d0, (hb.cell (p := ⟨w.heap.size, 1, none⟩) l0).trans d1, hb⟩
    have HC : Hid (∀ W : World, (W.cell? ⟨w.heap.size, 0, none⟩ = some (.slice (some ⟨g, o, none⟩) gn gc) ∧ W.cell? ⟨w.heap.size, 1, none⟩ = some (.int .i64 sc) ∧ Below w4.heap.size w4 W) → Calls Try.prog 48 #[.slice (some ⟨g, o, none⟩) gn gc] W fun e w' => ∃ g' c', e = .returned (.slice (some ⟨g', 0, none⟩) gn c') ∧ (W.heap.size ≤ g' ∧ g' < w'.heap.size) ∧ New W.heap.size w' (fun w => Grps w (some ⟨g', 0, none⟩) gn l) ∧ Below W.heap.size W w' ∧ Below w4.heap.size w4 w') := Lib.hid fun W ⟨_, _, hb⟩ => by
      obtain ⟨a', n', cc', ev, hG, _⟩ := HM4.out.below hb
      cases ev
      exact (clone_grp l g o gn gc W hG (by omega) (by omega)).mono fun e w' ⟨g', c', h1, h2, h3, h4⟩ => ⟨g', c', h1, ⟨h2, by obtain ⟨g2, o2, e2, hx⟩ := h3.out.2.2 0 hgn0; cases e2; exact hx.lt⟩, h3, h4, next hb h4⟩
    go_region_held3 (fun W => W.cell? ⟨w.heap.size, 0, none⟩ = some (.slice (some ⟨g, o, none⟩) gn gc) ∧ W.cell? ⟨w.heap.size, 1, none⟩ = some (.int .i64 sc) ∧ Below w4.heap.size w4 W)
      ((refine HA.out _ ?_; repeat (first | with_reducible exact hS0 | with_reducible exact bw5 | with_reducible exact Below.refl _ _ | with_reducible refine grows_alloc ?_ _ | with_reducible refine grows_set ?_ (by omega) _ | with_reducible refine Below.drew ?_)))
      (first
      | (go_at_call 48; refine (HC.out _ ?_).mono ?_; assumption; rintro e w5 ⟨g', c', rfl, ⟨hg5, hg6⟩, hN5, b5, bw5⟩; have HN5 := Lib.hid hN5; have HB5 := Lib.hid b5; have HG5 := Lib.hid (And.intro hg5 hg6); clear hN5; have bz5 := b5.size; (try simp at hg5); (try simp at bz5); (try have z50 : w4.heap.size < w5.heap.size := by omega); (try have z51 : w4.heap.size + 1 < w5.heap.size := by omega); (try have z52 : w4.heap.size + 2 < w5.heap.size := by omega); (have q00 := @Below.cell _ _ _ b5 ⟨w4.heap.size, 0, none⟩); (try simp at q00); (have r00 := @Below.frozen _ _ _ b5 ⟨w4.heap.size, 0, none⟩); (try simp at r00); (have q01 := @Below.cell _ _ _ b5 ⟨w4.heap.size, 1, none⟩); (try simp at q01); (have r01 := @Below.frozen _ _ _ b5 ⟨w4.heap.size, 1, none⟩); (try simp at r01); (have q02 := @Below.cell _ _ _ b5 ⟨w4.heap.size, 2, none⟩); (try simp at q02); (have r02 := @Below.frozen _ _ _ b5 ⟨w4.heap.size, 2, none⟩); (try simp at r02); (have q03 := @Below.cell _ _ _ b5 ⟨w4.heap.size, 3, none⟩); (try simp at q03); (have r03 := @Below.frozen _ _ _ b5 ⟨w4.heap.size, 3, none⟩); (try simp at r03); (have q10 := @Below.cell _ _ _ b5 ⟨w4.heap.size + 1, 0, none⟩); (try simp at q10); (have r10 := @Below.frozen _ _ _ b5 ⟨w4.heap.size + 1, 0, none⟩); (try simp at r10); (have q11 := @Below.cell _ _ _ b5 ⟨w4.heap.size + 1, 1, none⟩); (try simp at q11); (have r11 := @Below.frozen _ _ _ b5 ⟨w4.heap.size + 1, 1, none⟩); (try simp at r11); (have q12 := @Below.cell _ _ _ b5 ⟨w4.heap.size + 1, 2, none⟩); (try simp at q12); (have r12 := @Below.frozen _ _ _ b5 ⟨w4.heap.size + 1, 2, none⟩); (try simp at r12); (have q13 := @Below.cell _ _ _ b5 ⟨w4.heap.size + 1, 3, none⟩); (try simp at q13); (have r13 := @Below.frozen _ _ _ b5 ⟨w4.heap.size + 1, 3, none⟩); (try simp at r13); (have q20 := @Below.cell _ _ _ b5 ⟨w4.heap.size + 2, 0, none⟩); (try simp at q20); (have r20 := @Below.frozen _ _ _ b5 ⟨w4.heap.size + 2, 0, none⟩); (try simp at r20); (have q21 := @Below.cell _ _ _ b5 ⟨w4.heap.size + 2, 1, none⟩); (try simp at q21); (have r21 := @Below.frozen _ _ _ b5 ⟨w4.heap.size + 2, 1, none⟩); (try simp at r21); (have q22 := @Below.cell _ _ _ b5 ⟨w4.heap.size + 2, 2, none⟩); (try simp at q22); (have r22 := @Below.frozen _ _ _ b5 ⟨w4.heap.size + 2, 2, none⟩); (try simp at r22); (have q23 := @Below.cell _ _ _ b5 ⟨w4.heap.size + 2, 3, none⟩); (try simp at q23); (have r23 := @Below.frozen _ _ _ b5 ⟨w4.heap.size + 2, 3, none⟩); (try simp at r23)))
    all_goals
      (try clear q00); (try clear r00); (try clear q01); (try clear r01); (try clear q02); (try clear r02); (try clear q03); (try clear r03); (try clear q10); (try clear r10); (try clear q11); (try clear r11); (try clear q12); (try clear r12); (try clear q13); (try clear r13); (try clear q20); (try clear r20); (try clear q21); (try clear r21); (try clear q22); (try clear r22); (try clear q23); (try clear r23)
      clear mk1 mk2 HA HC b5 bw5 d0 d1
      go_wp2_with fail
      go_meet
      apply prog_done
      case h => repeat (first | with_reducible exact p_none hS0 | with_reducible exact p_none (Below.refl _ _) | with_reducible refine p_drew ?_ | with_reducible refine p_ptrs ?_ | with_reducible refine p_marks ?_ | with_reducible refine p_box ?_ (by first | (simp; done) | rfl) | with_reducible refine p_sets ?_ | with_reducible refine p_clone ?_ HB5.out HN5.out HG5.out)
      all_goals (first | (simp; done) | rfl)
  case rest =>
    obtain ⟨bx, lb, ab, g', c', rfl, hbx, hrl, hra, hgr, ⟨n1, n2, n3, n4, n5, n6, n7, n8, n9, n10, n11⟩, hbel⟩ := hcut
    have hB : w.heap.size ≤ w4.heap.size := HB4.out.size
    have hcs := (hbel.cell (p := ⟨w.heap.size, 1, none⟩) (by show w.heap.size < w4.heap.size; omega)).trans d1
    have hres := (hbel.block (w.heap.size + 1) (by omega)).trans HRES4.out
    have hSt : StG 0 (fun k => k = w.heap.size + 1) w.heap.size wc ⟨some ⟨g', 0, none⟩, gn, c', sc, lb, N, ab⟩ l (fun _ => (newDv sc.toNat).fresh fill) (fun _ => false) 0 (fun w' => BoxX ⟨some ⟨g', 0, none⟩, gn, c', sc, lb, N, ab⟩ bx w' ∧ w'.cell? ⟨w.heap.size, 1, none⟩ = some (.int .i64 sc)) := by
      have hzb := World.block_lt_of_cell? wc _ hbx.c0
      have hzc := World.block_lt_of_cell? wc _ hcs
      simp only at hzb hzc
      refine StG.start hra n1 n9 n10 (by show w.heap.size ≤ lb; omega) (by show w.heap.size ≤ ab; omega) (by show ¬ lb = _; omega) (by show ¬ ab = _; omega) (fun k hk => by rw [hk]; have := hbel.size; omega) (fun k hk => by omega) fun w' t => ?_
      have tc : ∀ b o, b < wc.heap.size → b ≠ lb → b ≠ ab → b ≠ w.heap.size + 1 ∧ w.heap.size ≤ b → w'.cell? ⟨b, o, none⟩ = wc.cell? ⟨b, o, none⟩ := fun b o h1 h2 h3 h4 => t.cell h1 fun e => by rcases e with (e | e | e) | e; exact h2 e; exact h3 e; exact h4.1 e; omega
      have tz := t.size
      refine ⟨⟨some ⟨g', 0, none⟩, gn, c', rfl, ⟨hgr.1, hgr.2.1, fun i hi => ?_⟩, hs0, hs1⟩, ⟨(tc _ _ hzb n2 n3 (by omega)).trans hbx.c0, (tc _ _ hzb n2 n3 (by omega)).trans hbx.c1, (tc _ _ hzb n2 n3 (by omega)).trans hbx.c2, (tc _ _ hzb n2 n3 (by omega)).trans hbx.c3⟩, (tc _ _ hzc (by omega) (by omega) (by omega)).trans hcs⟩
      obtain ⟨g2, o2, e2, hx⟩ := hgr.2.2 i hi
      have e3 : g2 = g' := by simp only [Option.some.injEq, Addr.mk.injEq, and_true] at e2; exact e2.1.symm
      have hx0 := hx.lt
      exact ⟨g2, o2, e2, by omega, (tc _ _ hx0 (by omega) (by omega) (by omega)).trans hx.c0, (tc _ _ hx0 (by omega) (by omega) (by omega)).trans hx.c1, hx.k0, hx.k1, hx.w0, hx.w1⟩
    have HST := Lib.hid hSt
    have HBW := Lib.hid (HB4.out.trans (hbel.mono hB))
    have HRES5 := Lib.hid hres
    have HRL : Hid (∀ i, 0 ≤ i → i < N → wc.cell? ⟨lb, i, none⟩ = some (.pointer none) ∧ wc.frozen? ⟨lb, i, none⟩ = false) := Lib.hid fun i _ hi => ⟨hrl.c i hi, hrl.fz i hi⟩
    have hnr1 : w.heap.size + 1 ≠ lb := by omega
    have hnr2 : w.heap.size ≠ lb := by omega
    have HGE : Hid (w.heap.size ≤ lb) := Lib.hid (by omega)
    have hsc0 := HR.out.s0
    have hsc1 := HR.out.s1
    obtain ⟨sn, hsn⟩ : ∃ sn : Nat, sc = (sn : Int) := ⟨sc.toNat, by omega⟩
    subst hsn
    have h1sn : 1 ≤ sn := by omega
    have h4096 : sn ≤ 4096 := by omega
    rw [Int.toNat_natCast] at HST
    clear hSt hbel hres hra hrl hgr d0 d1 n9 n10 HM4 HRES4 HB4 hcs hz2 hz4 hB n4 n5 n6 n7 n8 n11 hbx
    have HN2 := Lib.hid n2
    have HN1 := Lib.hid n1
    clear n1 n2 n3
    go_wp2_with fail
    go_loopw [27] (fun i wr => ∃ j : Nat, j ≤ N ∧ i = .int .i64 j ∧ StG j (fun k => k = w.heap.size + 1) w.heap.size wr ⟨some ⟨g', 0, none⟩, gn, c', (sn : Int), lb, N, ab⟩ l (fun _ => (newDv sn).fresh fill) (fun _ => false) 0 (fun w' => BoxX ⟨some ⟨g', 0, none⟩, gn, c', (sn : Int), lb, N, ab⟩ bx w' ∧ w'.cell? ⟨w.heap.size, 1, none⟩ = some (.int .i64 (sn : Int))) ∧ wr.heap[w.heap.size + 1]? = some (.cells #[.slice none 0 0, .int .i64 0, .slice none 0 0, .slice none 0 0] 32) ∧ (∀ i, j ≤ i → i < N → wr.cell? ⟨lb, i, none⟩ = some (.pointer none) ∧ wr.frozen? ⟨lb, i, none⟩ = false) ∧ Below w.heap.size w wr) (fun i _ => N - (intOf i).toNat)
    case atStart => exact ⟨0, Nat.zero_le _, rfl, HST.out, HRES5.out, HRL.out, HBW.out⟩
    case round =>
      obtain ⟨j, hj, rfl, hst, hre, hrow, hbw⟩ := hrel
      have HS := Lib.hid hst
      have HRE := Lib.hid hre
      have HRO := Lib.hid hrow
      have HBw := Lib.hid hbw
      clear hst hre hrow hbw
      obtain ⟨⟨x0, x1, x2, x3⟩, cs⟩ := HS.out.out
      simp only at x0 x1 x2 x3
      have lbx := World.block_lt_of_cell? wr _ x0
      have lcs := World.block_lt_of_cell? wr _ cs
      simp only at lbx lcs
      by_cases hlt : j < N
      · obtain ⟨cj, fj⟩ := HRO.out j (Nat.le_refl _) hlt
        have llb := World.block_lt_of_cell? wr _ cj
        simp only at llb
        have b0 : Below wr.heap.size wr wr.drew := (Below.refl _ wr).drew
        have HNW : Hid (Calls Try.prog 49 #[.int .i64 (sn : Int)] wr.drew fun e w' => ∃ b f, e = .returned (.tuple #[.pointer (some ⟨b, 0, none⟩), .int .i64 0]) ∧ DevAt w' b (newDv sn) f ∧ (∀ k, f k → wr.heap.size ≤ k) ∧ Below wr.heap.size wr w') := Lib.hid ((new_ok sn wr.drew h1sn h4096).mono fun e w' ⟨h1, h2, h3⟩ => ⟨_, _, h1, h2, fun k hk => hk.1, next b0 h3⟩)
        have q1 : (0 : Int) ≤ (j : Int) := by omega
        have q2 : (j : Int) < (N : Int) := by omega
        go_wp2_with fail
        go_region_held3 (fun W => W.cell? ⟨bx, 2, none⟩ = some (.slice (some ⟨lb, 0, none⟩) N N) ∧ W.cell? ⟨w.heap.size, 1, none⟩ = some (.int .i64 (sn : Int)))
          (first | exact ⟨x2, cs⟩ | exact ⟨k0, k1⟩ | exact ⟨m0, m1⟩)
          (first | (go_at_call 49; refine HNW.out.mono ?_; rintro e w7 ⟨b, f, rfl, h7, hf7, b8⟩; have HD7 := Lib.hid h7; have HF7 := Lib.hid hf7; clear h7 hf7; have k0 := (b8.cell (p := ⟨bx, 2, none⟩) lbx).trans x2; have k1 := (b8.cell (p := ⟨w.heap.size, 1, none⟩) lcs).trans cs; have k2 := (b8.cell (p := ⟨lb, j, none⟩) llb).trans cj; have k3 := (b8.frozen (p := ⟨lb, j, none⟩) llb).trans fj; have m0 : (w7.setCell ⟨lb, j, none⟩ (.pointer (some ⟨b, 0, none⟩))).cell? ⟨bx, 2, none⟩ = some (.slice (some ⟨lb, 0, none⟩) N N) := cell_store k0 HN2.out; have m1 : (w7.setCell ⟨lb, j, none⟩ (.pointer (some ⟨b, 0, none⟩))).cell? ⟨w.heap.size, 1, none⟩ = some (.int .i64 (sn : Int)) := cell_store k1 hnr2))
        have HS8 := Lib.hid (HS.out.grow b8 HD7.out HF7.out k2 k3 ⟨rfl, by show ((List.replicate sn (fullS 0)).length : Int) = (sn : Int); rw [List.length_replicate], Nat.le_refl _⟩)
        have HRE8 : Hid ((w7.setCell ⟨lb, j, none⟩ (.pointer (some ⟨b, 0, none⟩))).heap[w.heap.size + 1]? = some (.cells #[.slice none 0 0, .int .i64 0, .slice none 0 0, .slice none 0 0] 32)) := Lib.hid ((Below.heap_setCell _ _ _ _ hnr1).trans ((b8.block _ (lt_of_some HRE.out)).trans HRE.out))
        have HRO8 : Hid (∀ i, j + 1 ≤ i → i < N → (w7.setCell ⟨lb, j, none⟩ (.pointer (some ⟨b, 0, none⟩))).cell? ⟨lb, i, none⟩ = some (.pointer none) ∧ (w7.setCell ⟨lb, j, none⟩ (.pointer (some ⟨b, 0, none⟩))).frozen? ⟨lb, i, none⟩ = false) := Lib.hid fun i hi hiN => by
          obtain ⟨h1, h2⟩ := HRO.out i (by omega) hiN
          refine ⟨?_, ?_⟩
          · rw [World.cell?_setCell_other _ _ _ _ (by intro e; injection e with _ e _; omega)]
            exact (b8.cell (p := ⟨lb, i, none⟩) llb).trans h1
          · rw [World.frozen?_setCell]
            exact (b8.frozen (p := ⟨lb, i, none⟩) llb).trans h2
        have HB8 : Hid (Below w.heap.size w (w7.setCell ⟨lb, j, none⟩ (.pointer (some ⟨b, 0, none⟩)))) := Lib.hid ((HBw.out.trans (b8.mono HS.out.lt.2)).setCell (p := ⟨lb, j, none⟩) HGE.out _)
        obtain ⟨b', f', hc', hd', hdid⟩ := HS8.out.did (i := j) (by omega)
        have e9 : (w7.setCell ⟨lb, j, none⟩ (.pointer (some ⟨b, 0, none⟩))).cell? ⟨lb, j, none⟩ = some (.pointer (some ⟨b, 0, none⟩)) := World.cell?_setCell_same _ _ _ k2
        simp only at hc'
        rw [e9] at hc'
        simp only [Option.some.injEq, Value.pointer.injEq, Addr.mk.injEq, and_true] at hc'
        subst hc'
        rw [upd_same] at hd'
        have HFR := Lib.hid (fresh_any b (newDv sn) f' fill _ hd')
        have HDID := Lib.hid hdid
        clear hd' hdid x0 x1 x3 cj fj k0 k1 k2 k3 b8 HNW b0
        go_wp2_with fail
        refine HFR.out.mono ?_
        rintro e w9 ⟨rfl, hd9⟩
        obtain ⟨h9, b9, hlb9, hX9⟩ := HDID.out _ w9 0 hd9 ⟨rfl, by show ((List.replicate (newDv sn).med.length (fullS fill)).length : Int) = (sn : Int); rw [List.length_replicate]; show ((List.replicate sn (fullS 0)).length : Int) = (sn : Int); rw [List.length_replicate], Nat.zero_le _⟩ (Nat.le_refl _)
        have eds : upd (upd (fun _ => (newDv sn).fresh fill) j (newDv sn)) j ((newDv sn).fresh fill) = fun _ => (newDv sn).fresh fill := by
          funext i
          by_cases e : i = j
          · subst e; rw [upd_same]
          · rw [upd_other _ _ e, upd_other _ _ e]
        rw [eds] at h9
        have HS9 := Lib.hid h9
        have HRE9 := Lib.hid ((hX9 _ rfl).trans HRE8.out)
        have HB9 := Lib.hid (HB8.out.trans b9)
        have HRO9 : Hid (∀ i, j + 1 ≤ i → i < N → w9.cell? ⟨lb, i, none⟩ = some (.pointer none) ∧ w9.frozen? ⟨lb, i, none⟩ = false) := Lib.hid fun i hi hiN => by
          obtain ⟨h1, h2⟩ := HRO8.out i hi hiN
          exact ⟨(World.cell?_of_block hlb9).trans h1, (frozen_of_block hlb9).trans h2⟩
        clear h9 b9 hlb9 hX9 hd9 eds HDID HFR HS8 HRE8 HRO8 HB8 m0 m1 x2 cs e9
        go_wp2
        go_roundw
        case rel => exact ⟨j + 1, by omega, by go_num, HS9.out, HRE9.out, HRO9.out, HB9.out⟩
        case measure => simp [intOf]; omega
      · obtain rfl : j = N := by omega
        have hre := HRE.out
        have r0 : wr.cell? ⟨w.heap.size + 1, 0, none⟩ = some (.slice none 0 0) := by simp [World.cell?, hre]
        have r1 : wr.cell? ⟨w.heap.size + 1, 1, none⟩ = some (.int .i64 0) := by simp [World.cell?, hre]
        have r2 : wr.cell? ⟨w.heap.size + 1, 2, none⟩ = some (.slice none 0 0) := by simp [World.cell?, hre]
        have r3 : wr.cell? ⟨w.heap.size + 1, 3, none⟩ = some (.slice none 0 0) := by simp [World.cell?, hre]
        have z0 : wr.frozen? ⟨w.heap.size + 1, 0, none⟩ = false := by simp [World.frozen?, hre]
        have z1 : wr.frozen? ⟨w.heap.size + 1, 1, none⟩ = false := by simp [World.frozen?, hre]
        have z2 : wr.frozen? ⟨w.heap.size + 1, 2, none⟩ = false := by simp [World.frozen?, hre]
        have z3 : wr.frozen? ⟨w.heap.size + 1, 3, none⟩ = false := by simp [World.frozen?, hre]
        clear hre
        have hW := sets4 (.slice (some ⟨g', 0, none⟩) gn c') (.int .i64 (sn : Int)) (.slice (some ⟨lb, 0, none⟩) j j) (.slice (some ⟨ab, 0, none⟩) j j) HRE.out
        have hT := turn4 wr (w.heap.size + 1) (.slice (some ⟨g', 0, none⟩) gn c') (.int .i64 (sn : Int)) (.slice (some ⟨lb, 0, none⟩) j j) (.slice (some ⟨ab, 0, none⟩) j j)
        have HW := Lib.hid hW
        have HT := Lib.hid hT
        clear hW hT
        go_wp2_with fail
        generalize (((wr.setCell ⟨w.heap.size + 1, 0, none⟩ (.slice (some ⟨g', 0, none⟩) gn c')).setCell ⟨w.heap.size + 1, 1, none⟩ (.int .i64 (sn : Int))).setCell ⟨w.heap.size + 1, 2, none⟩ (.slice (some ⟨lb, 0, none⟩) j j)).setCell ⟨w.heap.size + 1, 3, none⟩ (.slice (some ⟨ab, 0, none⟩) j j) = W at HW HT ⊢
        have hW := HW.out
        have s0 : W.cell? ⟨w.heap.size + 1, 0, none⟩ = some (.slice (some ⟨g', 0, none⟩) gn c') := by simp [World.cell?, hW]
        have s1 : W.cell? ⟨w.heap.size + 1, 1, none⟩ = some (.int .i64 (sn : Int)) := by simp [World.cell?, hW]
        have s2 : W.cell? ⟨w.heap.size + 1, 2, none⟩ = some (.slice (some ⟨lb, 0, none⟩) j j) := by simp [World.cell?, hW]
        have s3 : W.cell? ⟨w.heap.size + 1, 3, none⟩ = some (.slice (some ⟨ab, 0, none⟩) j j) := by simp [World.cell?, hW]
        clear hW
        refine bodyPost_ret (v := .tuple #[.agg #[.slice (some ⟨g', 0, none⟩) gn c', .int .i64 (sn : Int), .slice (some ⟨lb, 0, none⟩) j j, .slice (some ⟨ab, 0, none⟩) j j], .int .i64 0]) (by simp [results, Try.results25, go_sem, s0, s1, s2, s3]) rfl ⟨⟨some ⟨g', 0, none⟩, gn, c', (sn : Int), lb, j, ab⟩, rfl, rfl, ⟨HR.out, HDN.out, ?_⟩, ?_⟩
        · rw [Int.toNat_natCast]
          exact (HS.out.turnX HT.out (fun k hk => hk.elim) (fun k hk => hk.elim) HS.out.lt.2).mono fun _ _ => trivial
        · exact HBw.out.trans (HT.out.below (fun k hk => by omega) HS.out.lt.2)
end Go.Proofs.Ytlhnmcopioeboaa

/- vdev.New of a measure that isn't right; Right and Here of no devices; Here. -/
namespace Go.Proofs.Ytlhnmcopioeboaa
set_option maxRecDepth 100000
open Go.RowKit Go.Maps M

/-- No devices. -/
def noDevs : Value := .agg #[.slice none 0 0, .int .i64 0, .slice none 0 0, .slice none 0 0]
theorem new8_bad (l : List (Int × Int)) (sc : Int) (v : Value) (w : World) (h : Meas w v l sc) (hr : rightL l sc = false) (fill : Int) :
    Calls Try.prog 25 #[v, .int .u8 fill] w fun e w' => e = .returned (.tuple #[noDevs, .int .i64 1]) ∧ Below w.heap.size w w' := by
  obtain ⟨a, gn, gc, rfl, hg, hs0, hs1⟩ := id h
  have b1 := boxed w (.cells #[.slice a gn gc, .int .i64 sc] 24)
  have b2 := boxed (w.alloc (.cells #[.slice a gn gc, .int .i64 sc] 24)) (.cells #[.slice none 0 0, .int .i64 0, .slice none 0 0, .slice none 0 0] 32)
  have bb := next b1 b2
  have hres : ((w.alloc (.cells #[.slice a gn gc, .int .i64 sc] 24)).alloc (.cells #[.slice none 0 0, .int .i64 0, .slice none 0 0, .slice none 0 0] 32)).heap[w.heap.size + 1]? = some (.cells #[.slice none 0 0, .int .i64 0, .slice none 0 0, .slice none 0 0] 32) := by
    have := heap_alloc_new (w.alloc (.cells #[.slice a gn gc, .int .i64 sc] 24)) (.cells #[.slice none 0 0, .int .i64 0, .slice none 0 0, .slice none 0 0] 32)
    simpa using this
  have hz2 : ((w.alloc (.cells #[.slice a gn gc, .int .i64 sc] 24)).alloc (.cells #[.slice none 0 0, .int .i64 0, .slice none 0 0, .slice none 0 0] 32)).heap.size = w.heap.size + 2 := by simp
  have HRI := Lib.hid (right_any l sc _ _ (h.below bb) false hr)
  have HBB := Lib.hid bb
  have HRES := Lib.hid hres
  clear h hg b1 b2 bb hr hres
  go_enter Try.func25, Try.ntmps25
  go_wp2_with fail
  refine HRI.out.mono ?_
  rintro e w3 ⟨rfl, b3⟩
  have hre := (b3.block (w.heap.size + 1) (by omega)).trans HRES.out
  have r0 : w3.cell? ⟨w.heap.size + 1, 0, none⟩ = some (.slice none 0 0) := by simp [World.cell?, hre]
  have r1 : w3.cell? ⟨w.heap.size + 1, 1, none⟩ = some (.int .i64 0) := by simp [World.cell?, hre]
  have r2 : w3.cell? ⟨w.heap.size + 1, 2, none⟩ = some (.slice none 0 0) := by simp [World.cell?, hre]
  have r3 : w3.cell? ⟨w.heap.size + 1, 3, none⟩ = some (.slice none 0 0) := by simp [World.cell?, hre]
  have z0 : w3.frozen? ⟨w.heap.size + 1, 0, none⟩ = false := by simp [World.frozen?, hre]
  have z1 : w3.frozen? ⟨w.heap.size + 1, 1, none⟩ = false := by simp [World.frozen?, hre]
  have z2 : w3.frozen? ⟨w.heap.size + 1, 2, none⟩ = false := by simp [World.frozen?, hre]
  have z3 : w3.frozen? ⟨w.heap.size + 1, 3, none⟩ = false := by simp [World.frozen?, hre]
  have HB3 := Lib.hid (next HBB.out b3)
  have HW := Lib.hid (sets4 (.slice none 0 0) (.int .i64 0) (.slice none 0 0) (.slice none 0 0) hre)
  have HT := Lib.hid (turn4 w3 (w.heap.size + 1) (.slice none 0 0) (.int .i64 0) (.slice none 0 0) (.slice none 0 0))
  clear hre b3
  go_wp2_with fail
  generalize (((w3.setCell ⟨w.heap.size + 1, 0, none⟩ (.slice none 0 0)).setCell ⟨w.heap.size + 1, 1, none⟩ (.int .i64 0)).setCell ⟨w.heap.size + 1, 2, none⟩ (.slice none 0 0)).setCell ⟨w.heap.size + 1, 3, none⟩ (.slice none 0 0) = W at HW HT ⊢
  have hW := HW.out
  have s0 : W.cell? ⟨w.heap.size + 1, 0, none⟩ = some (.slice none 0 0) := by simp [World.cell?, hW]
  have s1 : W.cell? ⟨w.heap.size + 1, 1, none⟩ = some (.int .i64 0) := by simp [World.cell?, hW]
  have s2 : W.cell? ⟨w.heap.size + 1, 2, none⟩ = some (.slice none 0 0) := by simp [World.cell?, hW]
  have s3 : W.cell? ⟨w.heap.size + 1, 3, none⟩ = some (.slice none 0 0) := by simp [World.cell?, hW]
  clear hW
  exact bodyPost_ret (v := .tuple #[noDevs, .int .i64 1]) (by simp [results, Try.results25, go_sem, s0, s1, s2, s3, noDevs]) rfl ⟨rfl, HB3.out.trans (HT.out.below (fun k hk => by omega) HB3.out.size)⟩
theorem right8_no (w : World) : Calls Try.prog 14 #[noDevs] w fun e w' => e = .returned (.bool false) ∧ Below w.heap.size w w' := by
  have hb := boxed w (.cells #[.slice none 0 0, .int .i64 0, .slice none 0 0, .slice none 0 0] 32)
  have hm : ∀ w : World, Meas w (.agg #[.slice none 0 0, .int .i64 0]) [] 0 := fun w => ⟨none, 0, 0, rfl, ⟨Nat.zero_le _, rfl, fun i hi => absurd hi (Nat.not_lt_zero _)⟩, by decide, by decide⟩
  have HD := Lib.hid (fun w => devs_any [] 0 _ w (hm w) 0 rfl)
  have HB := Lib.hid hb
  clear hm hb
  unfold noDevs
  go_enter Try.func14, Try.ntmps14
  go_wp2_with fail
  refine (HD.out _).mono ?_
  rintro e w1 ⟨rfl, b1⟩
  go_wp2
  go_ret
  exact ⟨rfl, next HB.out b1⟩
theorem here8_no (d : Int) (w : World) : Calls Try.prog 15 #[noDevs, .int .i64 d] w fun e w' => e = .returned (.bool false) ∧ Below w.heap.size w w' := by
  have hb := Lib.hid (boxed w (.cells #[.slice none 0 0, .int .i64 0, .slice none 0 0, .slice none 0 0] 32))
  have HR := Lib.hid (fun w => right8_no w)
  unfold noDevs at HR ⊢
  go_enter Try.func15, Try.ntmps15
  go_wp2_with fail
  refine (HR.out _).mono ?_
  rintro e w1 ⟨rfl, b1⟩
  go_wp2
  go_ret
  exact ⟨rfl, next hb.out b1⟩
def hereD (ds : Nat → Dv) (aw : Nat → Bool) (n : Nat) (d : Int) : Bool := decide (0 ≤ d) && decide (d < n) && hereB ds aw d.toNat
section
variable {X : Nat → Prop} {B : Nat} {w : World} {x : Px} {l : List (Int × Int)} {ds : Nat → Dv} {aw : Nat → Bool} {K : Nat} {P : World → Prop}
theorem here8_any (h : StX X B w x l ds aw K P) (d : Int) :
    Calls Try.prog 15 #[x.val, .int .i64 d] w fun e w' => e = .returned (.bool (hereD ds aw x.n d)) ∧ Below w.heap.size w w' := by
  obtain ⟨_, h32⟩ := h.right.1.devs h.right.2
  have hb := boxed w (.cells #[.slice x.ga x.gn x.gc, .int .i64 x.sc, .slice (some ⟨x.lb, 0, none⟩) x.n x.n, .slice (some ⟨x.ab, 0, none⟩) x.n x.n] 32)
  have H1 := Lib.hid (h.add hb (BoxX.new w x _ (Nat.le_refl _) _))
  have HR := Lib.hid (right8_any H1.out)
  have HB := Lib.hid hb
  clear h hb
  unfold Px.val at HR ⊢
  unfold hereD
  go_enter Try.func15, Try.ntmps15
  go_wp2_with fail
  refine HR.out.mono ?_
  rintro e w1 ⟨rfl, b1⟩
  have H2 := Lib.hid (H1.out.below b1)
  have HB2 := Lib.hid (next HB.out b1)
  obtain ⟨_, x0, x1, x2, x3⟩ := H2.out.out
  clear b1
  by_cases h0 : 0 ≤ d
  · obtain ⟨k, rfl⟩ := Int.eq_ofNat_of_zero_le h0
    by_cases hk : k < x.n
    · have HH := Lib.hid (here_any H2.out k hk)
      unfold Px.val at HH
      have d1 : decide ((0 : Int) ≤ (k : Int)) = true := by simp
      have d2 : decide ((k : Int) < (x.n : Int)) = true := by simp; omega
      go_wp2_with fail
      refine HH.out.mono ?_
      rintro e w2 ⟨rfl, b2⟩
      go_wp2
      go_ret
      refine ⟨?_, next HB2.out b2⟩
      rw [Int.toNat_natCast, d1, d2]
      rfl
    · have d1 : decide ((0 : Int) ≤ (k : Int)) = true := by simp
      have d2 : decide ((k : Int) < (x.n : Int)) = false := by simp; omega
      go_wp2
      go_ret
      refine ⟨?_, HB2.out⟩
      rw [d1, d2]
      rfl
  · have d1 : decide ((0 : Int) ≤ d) = false := by simpa using h0
    go_wp2
    go_ret
    refine ⟨?_, HB2.out⟩
    rw [d1]
    rfl
end
end Go.Proofs.Ytlhnmcopioeboaa
