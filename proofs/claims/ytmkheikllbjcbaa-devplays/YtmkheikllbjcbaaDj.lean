/-
  Crash.
-/
import Derived.Test.YtmkheikllbjcbaaDi
namespace Go.Proofs.Ytmkheikllbjcbaa
open Go.RowKit Go.Maps

/-- The slice value v is the numbers l; they lie in no block of fp. -/
def Ints (fp : Nat → Prop) (w : World) (v : Value) (l : List Int) : Prop :=
  ∃ a c, v = .slice a l.length c ∧ l.length ≤ c ∧ ∀ j, j < l.length → ∃ g o, a = some ⟨g, o, none⟩ ∧ ¬ fp g ∧ g < w.heap.size ∧ w.cell? ⟨g, o + j, none⟩ = some (.int .i64 (l.getD j 0))
theorem Ints.nil (fp : Nat → Prop) (w : World) : Ints fp w (.slice none 0 0) [] := ⟨none, 0, rfl, Nat.le_refl _, fun _ h => absurd h (Nat.not_lt_zero _)⟩
theorem Ints.turn {fp fp' : Nat → Prop} {w w' : World} {v : Value} {l : List Int} (h : Ints fp w v l) (t : Turn fp w w') (hf : ∀ k, fp' k → fp k ∨ w.heap.size ≤ k) : Ints fp' w' v l := by
  obtain ⟨a, c, rfl, h1, h2⟩ := h
  refine ⟨a, c, rfl, h1, fun j hj => ?_⟩
  obtain ⟨g, o, rfl, h3, h4, h5⟩ := h2 j hj
  exact ⟨g, o, rfl, fun e => by rcases hf g e with e | e; exact h3 e; omega, Nat.lt_of_lt_of_le h4 t.size, by rw [World.cell?_of_block (w := w) (t.block g h4 h3)]; exact h5⟩
theorem Ints.below {fp : Nat → Prop} {w w' : World} {v : Value} {l : List Int} (h : Ints fp w v l) (hb : Below w.heap.size w w') : Ints fp w' v l := h.turn (Turn.of_below hb) fun _ h => .inl h
theorem Ints.at_ {fp : Nat → Prop} {w : World} {a : Option Addr} {n c : Nat} {l : List Int} (h : Ints fp w (.slice a n c) l) : l.length = n ∧ ∀ j, j < l.length → ∃ g o, a = some ⟨g, o, none⟩ ∧ ¬ fp g ∧ g < w.heap.size ∧ w.cell? ⟨g, o + j, none⟩ = some (.int .i64 (l.getD j 0)) := by
  obtain ⟨a', c', e, h1, h2⟩ := h
  cases e
  exact ⟨rfl, h2⟩
theorem OwnI.ints {fp : Nat → Prop} {w : World} {B : Nat} {v : Value} {l : List Int} (h : OwnI w B v l) (hf : ∀ k, fp k → k < B) : Ints fp w v l := by
  have hcells := fun g hg => World.ownsRow.cells (g := g) h hg
  rcases h.2 with ⟨rfl, hn⟩ | ⟨g, cap, cur, rfl, hB, hg, hnc, _⟩
  · have : l = [] := List.eq_nil_of_length_eq_zero hn
    subst this
    exact Ints.nil _ _
  · refine ⟨_, cap, rfl, hnc, fun j hj => ⟨g, 0, rfl, fun e => by have := hf g e; omega, (Array.getElem?_eq_some_iff.1 hg).1, ?_⟩⟩
    have := hcells g rfl j (.int .i64 l[j]) (by rw [List.getElem?_map, List.getElem?_eq_getElem hj]; rfl)
    rw [Go.WideShapes.add_plain] at this
    rw [this, List.getD_eq_getElem?_getD, List.getElem?_eq_getElem hj]
    rfl

/-- On the way of a crash: t of the sectors in the cache are settled. -/
def Dv.crashTo (S : Dv) (l : List Int) : Nat → Dv
  | 0 => S
  | t + 1 => if t < l.length then (S.crashTo l t).settle (S.keys.getD t 0) (l.getD t 0) else S.crashTo l t
/-- Behind a crash. -/
def Dv.crash (S : Dv) (l : List Int) : Dv := { (S.crashTo l S.keys.length).bare with fused := false }
theorem crashTo_since (S : Dv) (l : List Int) (t : Nat) : (S.crashTo l t).since = S.since ∧ (S.crashTo l t).med.length = S.med.length ∧ (S.crashTo l t).cnt = S.cnt ∧ (S.crashTo l t).lost = S.lost := by
  induction t with
  | zero => exact ⟨rfl, rfl, rfl, rfl⟩
  | succ t ih =>
    unfold Dv.crashTo
    split
    · unfold Dv.settle
      exact ⟨ih.1, by simp only [List.length_set]; exact ih.2.1, ih.2.2.1, ih.2.2.2⟩
    · exact ih
theorem keys_at {S : Dv} (h : DvOk S) (t : Nat) (ht : t < S.keys.length) : S.keys.getD t 0 < S.med.length ∧ S.since (S.keys.getD t 0) ≠ [] := by
  have hm : S.keys.getD t 0 ∈ S.keys := by
    rw [List.getD_eq_getElem?_getD, List.getElem?_eq_getElem ht]; exact List.getElem_mem ht
  refine ⟨?_, (mem_keys h).1 hm⟩
  simp only [Dv.keys, List.mem_filter, List.mem_range] at hm
  exact hm.1
def CrashRel (w : World) (b mb cb m : Nat) (hd : Nat → Nat × Nat) (S : Dv) (fp : Nat → Prop) (l : List Int) (u : Value) (wr : World) : Prop :=
  ∃ t : Nat, t ≤ S.keys.length ∧ u = .int .i64 (t : Int) ∧ DevIn wr b mb cb m hd (S.crashTo l t) fp ∧ Turn fp w wr

theorem crash_nil (v : Value) (w : World) :
    Calls Try.prog 17 #[.pointer none, v] w fun e w' => e = .returned (.tuple #[]) ∧ w = w' := by
  go_enter Try.func17, Try.ntmps17
  go_wp2_with fail
  refine (lost_nil _).mono ?_
  rintro e w1 ⟨rfl, rfl⟩
  go_wp2
  exact bodyPost_ret (results_none rfl _ _ _) rfl ⟨rfl, rfl⟩
theorem crash_lost (b : Nat) (S : Dv) (fp : Nat → Prop) (v : Value) (w : World) (h : DevAt w b S fp) (hl : S.lost = true) :
    Calls Try.prog 17 #[.pointer (some ⟨b, 0, none⟩), v] w fun e w' => e = .returned (.tuple #[]) ∧ w = w' := by
  have hL := lost_any b S fp w h
  rw [hl] at hL
  go_enter Try.func17, Try.ntmps17
  go_wp2_with fail
  refine hL.mono ?_
  rintro e w1 ⟨rfl, rfl⟩
  go_wp2
  exact bodyPost_ret (results_none rfl _ _ _) rfl ⟨rfl, rfl⟩

set_option maxHeartbeats 1000000 in
theorem crash_ok (b : Nat) (S : Dv) (fp : Nat → Prop) (v : Value) (l : List Int) (w : World) (h : DevAt w b S fp) (hl : S.lost = false) (hc : S.cnt ≤ 4294967296) (hv : Ints fp w v l) :
    Calls Try.prog 17 #[.pointer (some ⟨b, 0, none⟩), v] w fun e w' => e = .returned (.tuple #[]) ∧ Did fp b (S.crash l) w w' := by
  have hL := lost_any b S fp w h
  rw [hl] at hL
  have hC := cached_any b S fp w h hc
  have hok := Lib.hid h.ok
  obtain ⟨mb, cb, m, hd, h⟩ := h
  have HFP := Lib.hid h.lt
  obtain ⟨ka, kc, rfl, hkc, hkj⟩ := hv
  have HKJ := Lib.hid hkj
  have H := Lib.hid h
  clear hkj h
  go_enter Try.func17, Try.ntmps17
  go_wp2_with fail
  refine hL.mono ?_
  rintro e w1 ⟨rfl, rfl⟩
  go_wp2_with fail
  refine hC.mono ?_
  rintro e w1 ⟨cv, rfl, hI, b1⟩
  obtain ⟨ca, cc, rfl, hcc, hcj⟩ := hI.ints (fp := fp) HFP.out
  rw [List.length_map] at hcc
  simp only [List.length_map] at hcj ⊢
  have HCJ := Lib.hid hcj
  have hd1 := H.out.below b1
  have HKJ1 : Hid (Ints fp w1 (.slice ka l.length kc) l) := (show Ints fp w (.slice ka l.length kc) l from ⟨ka, kc, rfl, hkc, HKJ.out⟩).below b1
  have T1 : Hid (Turn fp w w1) := Turn.of_below b1
  clear hcj hI b1 hL hC H HKJ
  generalize hkn : S.keys.length = kn at *
  generalize hln : l.length = ln at *
  have HKN := Lib.hid hkn
  have HLN := Lib.hid hln
  clear hkn hln
  have hkn2 : kn ≤ 4096 := by
    rw [← HKN.out]
    have h1 : S.keys.length ≤ (List.range S.med.length).length := List.length_filter_le _ _
    have h2 := hok.out.n2
    simp at h1; omega
  have hrel0 : CrashRel w1 b mb cb m hd S fp l (.int .i64 0) w1 := ⟨0, Nat.zero_le _, rfl, hd1, Turn.refl _ _⟩
  clear hd1
  go_wp2_with fail
  go_loopw [11] (fun u wr => CrashRel w1 b mb cb m hd S fp l u wr) (fun u _ => kn - (intOf u).toNat)
  case atStart => exact hrel0
  case round =>
    obtain ⟨t, ht, rfl, hdev, hturn⟩ := hrel
    rw [HKN.out] at ht
    by_cases hlt : t < kn
    · obtain ⟨hk1, hk2⟩ := keys_at hok.out t (by rw [HKN.out]; exact hlt)
      obtain ⟨cg, co, rfl, hcf, hcg, hcell⟩ := HCJ.out t hlt
      have hcell2 : wr.cell? ⟨cg, co + t, none⟩ = some (.int .i64 ((S.keys.getD t 0 : Nat) : Int)) := by
        rw [World.cell?_of_block (w := w1) (hturn.block cg hcg hcf), hcell]
        simp only [List.getD_eq_getElem?_getD, List.getElem?_map]
        rw [List.getElem?_eq_getElem (by rw [HKN.out]; exact hlt)]
        rfl
      clear hcell
      have hstep : Hid (S.crashTo l (t + 1) = if t < l.length then (S.crashTo l t).settle (S.keys.getD t 0) (l.getD t 0) else S.crashTo l t) := rfl
      obtain ⟨e1, e2, e3, _⟩ := crashTo_since S l t
      have hset := fun n => settle_any b mb cb m hd (S.crashTo l t) fp (S.keys.getD t 0) n wr hdev (by rw [e2]; exact hk1) (by rw [e3]; exact hc)
      clear e1 e2 e3
      rw [HLN.out] at hstep
      generalize S.keys.getD t 0 = kk at *
      by_cases htl : t < ln
      · obtain ⟨kg, ko, rfl, hkf, hkg, hkcell⟩ := HKJ1.out.at_.2 t (by rw [HLN.out]; exact htl)
        have hkcell2 : wr.cell? ⟨kg, ko + t, none⟩ = some (.int .i64 (l.getD t 0)) := by
          rw [World.cell?_of_block (w := w1) (hturn.block kg hkg hkf), hkcell]
        clear hkcell
        have hset := hset (l.getD t 0)
        rw [if_pos htl] at hstep
        generalize l.getD t 0 = kv at *
        go_wp2_with fail
        refine hset.mono ?_
        rintro e w2 ⟨rfl, h2, t2⟩
        clear hset hcell2 hkcell2
        go_wp2
        go_roundw
        case rel => exact ⟨t + 1, by rw [HKN.out]; omega, by go_num, by rw [hstep.out]; exact h2, hturn.trans t2 fun _ h => .inl h⟩
        case measure => simp [intOf]; omega
      · rw [if_neg htl] at hstep
        clear hset
        have htl' : decide (t < ln) = false := by simpa using htl
        go_wp2
        go_roundw
        case rel => exact ⟨t + 1, by rw [HKN.out]; omega, by go_num, by rw [hstep.out]; exact hdev, hturn⟩
        case measure => simp [intOf]; omega
    · obtain rfl : t = kn := by omega
      have c1 := hdev.c1
      have HD := Lib.hid hdev
      clear hdev
      go_wp2_with (obtain ⟨w', hr, h3, h4⟩ := wipe_any HD.out _; have c3 := h3.c3; have f3 := h3.fr 3; have c0 := h3.c0; have H3 := Lib.hid h3; clear h3; refine wpList_clear _ rfl _ _ rfl _ rfl _ hr ?_)
      go_end0
      refine ⟨rfl, Did.of (mb := mb) (cb := cb) (m := 0) (hd := hd) (S := S.crash l) ?_ ((T1.out.trans (hturn.trans h4 fun _ h => .inl h) fun _ h => .inl h).setCell (.inl H3.out.fb) _)⟩
      have := H3.out.set3 false
      unfold Dv.crash
      rw [HKN.out]
      exact this
end Go.Proofs.Ytmkheikllbjcbaa
