/-
  Fresh, New.
-/
import Derived.Test.YtmkheikllbjcbaaDl
namespace Go.Proofs.Ytmkheikllbjcbaa
open Go.RowKit Go.Maps

/-- A sector full of a byte. -/
def fullS (c : UInt8) : Sec := List.replicate 64 c
theorem fullS_len (c : UInt8) : (fullS c).length = 64 := by simp [fullS]
/-- A new device in the place of another one. -/
def Dv.fresh (S : Dv) (c : UInt8) : Dv := { S with med := List.replicate S.med.length (fullS c), since := fun _ => [], lost := false, fused := false, cnt := 0 }
def freshL (S : Dv) (x : Sec) (t : Nat) : List Sec := List.replicate t x ++ S.med.drop t
theorem freshL_len (S : Dv) (x : Sec) (t : Nat) (h : t ≤ S.med.length) : (freshL S x t).length = S.med.length := by simp [freshL]; omega
theorem freshL_zero (S : Dv) (x : Sec) : freshL S x 0 = S.med := by simp [freshL]
theorem freshL_step (S : Dv) (x : Sec) (t : Nat) (h : t < S.med.length) : (freshL S x t).set t x = freshL S x (t + 1) := by
  unfold freshL
  rw [List.set_append_right _ _ (by simp)]
  rw [List.drop_eq_getElem_cons h, List.length_replicate, Nat.sub_self, List.set_cons_zero, List.replicate_succ', List.append_assoc]
  rfl
theorem freshL_end (S : Dv) (c : UInt8) : ({ ({ S with med := freshL S (fullS c) S.med.length } : Dv).bare with lost := false, fused := false } : Dv) = S.fresh c := by
  unfold Dv.bare Dv.fresh freshL
  simp
def FillRel (w : World) (vb : Nat) (c : Int) (u : Value) (wr : World) : Prop :=
  ∃ t : Nat, t ≤ 64 ∧ u = .int .i64 (t : Int) ∧ Below w.heap.size w wr ∧ wr.there vb 0 64 ∧ (∀ j, j < t → wr.cell? ⟨vb, j, none⟩ = some (.int .u8 c)) ∧ w.heap.size < wr.heap.size
def FreshRel (w : World) (b mb cb m vb : Nat) (hd : Nat → Nat × Nat) (S : Dv) (fp : Nat → Prop) (x : Sec) (u : Value) (wr : World) : Prop :=
  ∃ t : Nat, t ≤ S.med.length ∧ u = .int .i64 (t : Int) ∧ DevIn wr b mb cb m hd { S with med := freshL S x t } fp ∧ Turn fp w wr ∧ wr.rangeAt vb 0 (secCells x)
theorem fresh_nil (c : Value) (w : World) :
    Calls Try.prog 25 #[.pointer none, c] w fun e w' => e = .returned (.tuple #[]) ∧ w = w' := by
  go_enter Try.func25, Try.ntmps25
  go_wp2
  exact bodyPost_ret (results_none rfl _ _ _) rfl ⟨rfl, rfl⟩

set_option maxRecDepth 100000 in
set_option maxHeartbeats 1000000 in
theorem fresh_any (b : Nat) (S : Dv) (fp : Nat → Prop) (c : UInt8) (w : World) (h : DevAt w b S fp) :
    Calls Try.prog 25 #[.pointer (some ⟨b, 0, none⟩), .int .u8 (c.toNat : Int)] w fun e w' => e = .returned (.tuple #[]) ∧ Did fp b (S.fresh c) w w' := by
  obtain ⟨mb, cb, m, hd, h⟩ := h
  have H := Lib.hid h
  have hn2 := h.ok.n2
  clear h
  go_enter Try.func25, Try.ntmps25
  go_wp2_with fail
  have hrel0 : FillRel w w.heap.size (c.toNat : Int) (.int .i64 0) (w.alloc (.cells (Array.replicate 64 (.int .u8 0)) 64)) :=
    ⟨0, Nat.zero_le _, rfl, (Below.refl _ w).alloc (Nat.le_refl _) _, there_new _ _ _ _ (by simp), fun j hj => absurd hj (Nat.not_lt_zero _), by simp⟩
  go_loopw [9] (fun u wr => FillRel w w.heap.size (c.toNat : Int) u wr) (fun u _ => 64 - (intOf u).toNat)
  case atStart => exact hrel0
  case round =>
    obtain ⟨t, ht, rfl, hb, hth, hce, hsz⟩ := hrel
    clear hrel0
    by_cases hlt : t < 64
    · obtain ⟨u0, hu0⟩ := Option.isSome_iff_exists.1 (hth t hlt).1
      have hf0 := (hth t hlt).2
      rw [Nat.zero_add] at hu0 hf0
      have HTH := Lib.hid hth
      have HCE := Lib.hid hce
      clear hth hce
      go_wp2
      go_roundw
      case rel =>
        refine ⟨t + 1, by omega, by go_num, hb.setCell (Nat.le_refl _) _, fun j hj => ⟨?_, ?_⟩, fun j hj => ?_, by simpa [World.setCell] using hsz⟩
        · by_cases e : t = j
          · subst e
            rw [Nat.zero_add, World.cell?_setCell_same _ _ _ hu0]; rfl
          · rw [World.cell?_setCell_other _ _ _ _ (by intro h; injection h with _ h _; omega)]
            exact (HTH.out j hj).1
        · rw [World.frozen?_setCell]; exact (HTH.out j hj).2
        · by_cases e : t = j
          · subst e
            rw [World.cell?_setCell_same _ _ _ hu0]
          · rw [World.cell?_setCell_other _ _ _ _ (by intro h; injection h with _ h _; omega)]
            exact HCE.out j (by omega)
      case measure => simp [intOf]; omega
    · obtain rfl : t = 64 := by omega
      have r1 : wr.rangeAt w.heap.size 0 (secCells (fullS c)) := fun j v hv => by
        have hj : j < 64 := by
          have := (List.getElem?_eq_some_iff.1 hv).1
          rw [secCells_len, fullS_len] at this
          exact this
        rw [Nat.zero_add, hce j hj, ← hv, secCells, List.getElem?_map, fullS, List.getElem?_replicate, if_pos hj]
        rfl
      have hd1 := H.out.below hb
      have hvb : ¬ fp w.heap.size := fun e => Nat.lt_irrefl _ (H.out.lt _ e)
      have T1 : Turn fp w wr := Turn.of_below hb
      have HT1 := Lib.hid T1
      have c0 := hd1.c0
      have hrel1 : FreshRel w b mb cb m w.heap.size hd S fp (fullS c) (.int .i64 0) wr := ⟨0, Nat.zero_le _, rfl, by rw [freshL_zero]; exact hd1, T1, r1⟩
      clear hb hth hce hsz T1 hd1 r1
      have HVB := Lib.hid hvb
      clear hvb
      generalize hN : S.med.length = N at *
      have HN := Lib.hid hN
      clear hN ht hlt
      generalize w.heap.size = vb at *
      go_wp2_with fail
      clear c0
      go_loopw [21] (fun u wr => FreshRel w b mb cb m vb hd S fp (fullS c) u wr) (fun u _ => N - (intOf u).toNat)
      case atStart => exact hrel1
      case round =>
        obtain ⟨t, ht, rfl, hdev, hturn, rv⟩ := hrel
        clear hrel1
        by_cases hlt : t < N
        · have hlen : (freshL S (fullS c) t).length = N := by rw [freshL_len S _ t ht]; exact HN.out
          have hk : t < ({ S with med := freshL S (fullS c) t } : Dv).med.length := by show t < (freshL S (fullS c) t).length; rw [hlen]; exact hlt
          have tm := hdev.med.there t hk
          have hD := hdev.drew.medSet t hk (fullS c) (fullS_len c)
          have c0 := hdev.c0
          have cD := hD.c0
          have rD := World.rangeAt_setCells_apart (w := wr.drew) rv mb (t * 64) (secCells (fullS c)) (.inl fun e => HVB.out (e ▸ hdev.fm))
          have tD := World.there_setCells (w := wr.drew) tm mb (t * 64) (secCells (fullS c))
          have T := Lib.hid ((hturn.trans (Turn.of_below (fp := fp) (Below.refl _ wr).drew) fun _ h => .inl h).setCells hdev.fm (t * 64) (secCells (fullS c)))
          simp only at hD
          rw [freshL_step S _ t (by rw [HN.out]; exact hlt)] at hD
          have HDv := Lib.hid hD
          have h1c := secCells_one (fullS c)
          have hl64 : (secCells (fullS c)).length = 64 := by rw [secCells_len, fullS_len]
          have hu := Try.underlying64
          have hi : (Try.prog.info? 64).map (·.size) = some (secCells (fullS c)).length := by
            obtain ⟨i, z, hi, _, hs, _⟩ := info_sec
            rw [hi, hl64, ← hs]; rfl
          simp only [List.length_set] at cD
          simp only at c0
          rw [hlen] at c0 cD
          have HTL : Hid (t + 1 ≤ S.med.length) := by show t + 1 ≤ _; rw [HN.out]; omega
          clear hD hdev hturn hlen hk ht
          unfold FreshRel
          generalize secCells (fullS c) = cs at *
          have q4 : (t : Int) < (N : Int) := by omega
          go_wp2_with fail
          go_region_held3 (fun w' => w'.cell? ⟨b, 0, none⟩ = some (.slice (some ⟨mb, 0, none⟩) N N) ∧ w'.rangeAt vb 0 cs ∧ w'.there mb (t * 64) 64) (first | exact ⟨c0, rv, tm⟩ | exact ⟨cD, rD, tD⟩) (first | fail)
          all_goals
            go_wp2
            go_roundw
            case rel => exact ⟨t + 1, HTL.out, by go_num, HDv.out, T.out, rD⟩
            case measure => simp [intOf]; omega
        · have e : t = N := by rw [HN.out] at ht; omega
          subst e
          have c1 := hdev.c1
          have HD := Lib.hid hdev
          clear hdev rv hlt ht
          go_wp2_with (obtain ⟨w', hr, h3, h4⟩ := wipe_any HD.out _; have c2 := h3.c2; have f2 := h3.fr 2; have c3 := h3.c3; have f3 := h3.fr 3; have H3 := Lib.hid h3; clear h3; refine wpList_clear _ rfl _ _ rfl _ rfl _ hr ?_)
          go_end0
          refine ⟨rfl, Did.of (mb := mb) (cb := cb) (m := 0) (hd := hd) (S := S.fresh c) ?_ (((hturn.trans h4 fun _ h => .inl h).setCell (.inl H3.out.fb) _).setCell (.inl H3.out.fb) _)⟩
          have := (H3.out.set2 false).set3 false
          rw [← freshL_end, HN.out]
          exact this
end Go.Proofs.Ytmkheikllbjcbaa
