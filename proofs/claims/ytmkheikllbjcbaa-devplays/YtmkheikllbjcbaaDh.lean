/-
  Flush: the walk.
-/
import Derived.Test.YtmkheikllbjcbaaDg
namespace Go.Proofs.Ytmkheikllbjcbaa
open Go.RowKit Go.Maps

def FlushRel (w : World) (b mb cb m r : Nat) (hd : Nat → Nat × Nat) (S : Dv) (fp : Nat → Prop) (D : DataW Unit) (wr : World) : Prop :=
  ∃ left cnt, wr.ranges Try.prog 3 hdr cb r m D left cnt ∧ DevIn wr b mb cb m hd { S with med := flushL S fun i => left (.int .i64 (i : Int)) } fp ∧ Turn fp w wr

theorem grown_setCells (w : World) (b o : Nat) (vs : List Value) : w.grownBy (w.drew.setCells b o vs) (some b) := by
  obtain ⟨h1, h2⟩ := heap_setCells b vs o w.drew
  obtain ⟨e1, e2, e3⟩ := env_setCells b vs o w.drew
  exact ⟨e1, e2, e3, by rw [h1]; exact Nat.le_refl _, fun k _ hn => h2 k (fun e => hn (by rw [e]))⟩
theorem iter_ne {w : World} {cb r m g c : Nat} {D : DataW Unit} {left : Lit → Bool} {cnt : Nat} {l : List Sec} (h : w.ranges Try.prog 3 hdr cb r m D left cnt) (hg : Rows w g c l) : r ≠ g := by
  intro e
  obtain ⟨_, _, _, _, _, _, _, _, _, hr, _⟩ := h
  obtain ⟨cur, h1, _⟩ := hg.shape
  rw [e, h1] at hr
  cases hr
theorem invK : ∀ key kl, keyOf Try.prog 3 key = some kl → ∃ x, key = Value.int .i64 x := fun key kl hkey => by
  obtain ⟨x, rfl, _⟩ := Maps.keyOf_int_inv Try.underlying3 hkey; exact ⟨x, rfl⟩
theorem invV : ∀ v y, hdr v = some y → ∃ c : Hd, v = c.val := fun v y hv => by
  obtain ⟨c, rfl, _⟩ := hdr_inv hv; exact ⟨c, rfl⟩

set_option maxHeartbeats 1000000 in
theorem flush_ok (b : Nat) (S0 : Dv) (fp : Nat → Prop) (w : World) (h : DevAt w b S0 fp) (hl : S0.lost = false) (hp : S0.pass = true) (hc : S0.cnt ≤ 4294967296) :
    Calls Try.prog 15 #[.pointer (some ⟨b, 0, none⟩)] w fun e w' => e = .returned (.int .i64 0) ∧ Did fp b S0.spent.flush w w' := by
  have hL := lost_any b S0 fp w h
  rw [hl] at hL
  obtain ⟨mb, cb, m, hd, h⟩ := h
  have hP := pass_any b mb cb m hd S0 fp w h
  rw [hp] at hP
  have hc' : S0.spent.cnt ≤ 4294967296 := hc
  clear h hc
  generalize S0.spent = S at *
  go_enter Try.func15, Try.ntmps15
  go_wp2_with fail
  refine hL.mono ?_
  rintro e w1 ⟨rfl, rfl⟩
  go_wp2_with fail
  refine hP.mono ?_
  rintro e w1 ⟨rfl, h1, t1, z1⟩
  clear z1 hP hL
  have c1 := h1.c1
  have HM := h1.map
  obtain ⟨D, hown, hat0, hhas0⟩ := HM
  have HD : Heads D S hd := ⟨hat0, hhas0⟩
  clear hat0 hhas0
  have H1 := Lib.hid h1
  clear h1
  go_wp2_with (first | (at_range; refine wpList_range_own _ rfl _ 59 rfl 3 58 law Try.underlying59 _ cb m D rfl hown ?_; intro w0 hrg0 hg0 hs0))
  go_frame
  have hlt : Hid (∀ k, fp k → k < w1.heap.size) := H1.out.lt
  have hn2 := H1.out.ok.n2
  have hrel0 : FlushRel w b mb cb m w1.heap.size hd S fp D w0 := by
    refine ⟨_, _, hrg0, ?_, t1.trans (grown_turn (fp := fp) hg0 fun _ e => by cases e) fun _ h => .inl h⟩
    rw [flushL_start S _ fun i hi hf => ?_]
    · exact H1.out.same hg0.size fun k hk => hg0.block k (hlt.out k hk) (by simp)
    · rw [HD.has _ (wfN i (by omega))] at hf
      by_cases e : S.since i = []
      · exact e
      · rw [head_of e] at hf; cases hf
  have t1s := t1.size
  clear hrg0 hg0 hs0 hown t1 c1 H1
  have hrs : Hid (w.heap.size ≤ w1.heap.size) := t1s
  generalize w1.heap.size = r at *
  go_loopw [3] (fun _ wr => FlushRel w b mb cb m r hd S fp D wr) (fun _ wr => wr.rangeLeft cb r)
  case atStart => exact hrel0
  case round =>
    obtain ⟨left, cnt, hrg, hdev, ht⟩ := hrel
    go_wp2_with (first
      | (at_next; refine wpList_next_ranges _ rfl _ rfl 3 law hdr (Value.int .i64) Hd.val invK invV cb r m D left cnt rfl hrg ?_ ?_))
    · intro _ hl0
      have e := flushL_end S (fun i => left (.int .i64 (i : Int))) fun i => hl0 _
      have c1 := hdev.c1
      go_wp2_with (obtain ⟨w', hr, h3, h4⟩ := wipe_any hdev _; refine wpList_clear _ rfl _ _ rfl _ rfl _ hr ?_)
      go_ret
      rw [e] at h3
      exact ⟨rfl, Did.of h3 (ht.trans h4 fun _ h => .inl h)⟩
    · intro x c kl yd yp w2 cnt2 hkey hlk hv hat hrg2 hlt2 hg2 hs2 hen
      obtain ⟨k, rfl, hsk, rfl, rfl⟩ := next_key HD hkey hv hat
      have hd2 := hdev.same hg2.size fun q hq => hg2.block q (hdev.lt q hq) (fun e => by cases e; exact Nat.lt_irrefl _ (hlt.out _ hq))
      have t2 : Turn fp w w2 := ht.trans (fp' := fun q => q = r) ⟨hg2.os, hg2.tape, hg2.output, hg2.size, fun q hq hn => hg2.block q hq (fun e => by cases e; exact hn rfl)⟩ fun q hq => by subst hq; exact .inr hrs.out
      have HLT := Lib.hid hlt2
      have HL0 := Lib.hid hrg.left_eq
      have hk : k < S.med.length := by
        rcases Nat.lt_or_ge k S.med.length with h | h
        · exact h
        · exact absurd (hdev.ok.out k (by show (flushL S _).length ≤ k; rw [flushL_len]; exact h)) hsk
      have hvr := hd2.vers k hsk
      have hcc := hvr.le
      have hcm := hvr.cap
      have hlc := hdev.ok.cnts k
      simp only at hvr hcc hlc
      obtain ⟨j, hj⟩ : ∃ j, (S.since k).length = j + 1 := ⟨(S.since k).length - 1, by have := List.length_pos_iff.2 hsk; omega⟩
      have hjl : j < (S.since k).length := by omega
      have hnow : (S.since k)[j] = S.now k := by
        unfold Dv.now
        rw [List.getLastD_eq_getLast?, List.getLast?_eq_getElem?, List.getElem?_eq_getElem (by omega)]
        simp [hj]
      have hx := hvr.at_ j hjl
      have rv := hvr.range j hjl
      rw [hnow] at hx rv
      have tm := hd2.med.there k (by rw [flushL_len]; exact hk)
      have hD := hd2.drew.medSet k (by rw [flushL_len]; exact hk) _ hx
      have c0 := hd2.c0
      have cD := hD.c0
      have rD := World.rangeAt_setCells_apart (w := w2.drew) rv mb (k * 64) (secCells (S.now k)) (.inl (hd2.apart k hsk))
      have tD := World.there_setCells (w := w2.drew) tm mb (k * 64) (secCells (S.now k))
      have T := Lib.hid ((t2.trans (Turn.of_below (fp := fp) (Below.refl _ w2).drew) fun _ h => .inl h).setCells hd2.fm (k * 64) (secCells (S.now k)))
      have HR := Lib.hid (hrg2.kept (grown_setCells w2 mb (k * 64) (secCells (S.now k))) (by intro e; cases e; exact hd2.cmb rfl) (by intro e; cases e; exact iter_ne hrg2 hd2.med rfl))
      have e3 : (flushL S fun i => left (.int .i64 (i : Int))).set k (S.now k) = flushL S fun i => left (.int .i64 (i : Int)) && !(Lit.int .i64 (i : Int)).sameKey (.int .i64 (k : Int)) :=
        flushL_step S _ _ k (by simp [sameKey_int]) fun i hi => by
          have : ¬ ((i : Int) = (k : Int)) := by omega
          simp [sameKey_int, this]
      simp only at hD
      rw [e3] at hD
      have HDv := Lib.hid hD
      have h1c := secCells_one (S.now k)
      have hl64 : (secCells (S.now k)).length = 64 := by rw [secCells_len, hx]
      have hu := Try.underlying64
      have hi : (Try.prog.info? 64).map (·.size) = some (secCells (S.now k)).length := by
        obtain ⟨i, z, hi, _, hs, _⟩ := info_sec
        rw [hi, hl64, ← hs]; rfl
      simp only [List.length_set, flushL_len] at cD c0
      simp only [Hd.val, hj] at hen ⊢
      rw [hj] at hcc hlc
      clear e3 hD hx hnow hvr hdev ht hg2 hs2 hrg hrg2 hv hat hkey hlk t2 hd2 hj hjl hlt2
      generalize secCells (S.now k) = cs at *
      generalize S.med.length = N at *
      generalize (hd k).1 = g at *
      generalize (hd k).2 = c at *
      unfold maxLen at hcm
      go_wp2_with fail
      have q1 : IntKind.i64.wrap ((j : Int) + 1 - 1) = (j : Int) := by rw [show (j : Int) + 1 - 1 = j by omega]; exact IntWalk.i64_in _ (by omega)
      have q2 : IntKind.i64.wrap (j : Int) = (j : Int) := IntWalk.i64_in _ (by omega)
      have q3 : (j : Int) < ((j + 1 : Nat) : Int) := by omega
      have q4 : (k : Int) < (N : Int) := by omega
      have q5 : (j : Int) < (j : Int) + 1 := by omega
      go_region_held3 (fun w' => w'.cell? ⟨b, 0, none⟩ = some (.slice (some ⟨mb, 0, none⟩) N N) ∧ w'.rangeAt g (j * 64) cs ∧ w'.there mb (k * 64) 64) (first | exact ⟨c0, rv, tm⟩ | exact ⟨cD, rD, tD⟩) (first | fail)
      all_goals
        go_wp2
        go_roundw
        case rel => exact ⟨_, cnt2, HR.out, HDv.out, T.out⟩
        case measure => rw [HR.out.left_eq, HL0.out]; exact HLT.out
end Go.Proofs.Ytmkheikllbjcbaa
