/-
  The walk of polderlaw03.ParOrder: it returns true, and writes nothing that was there.
-/
import Derived.Test.YtckfhphobjjojaaPo
namespace Go.Proofs.Ytckfhphobjjojaa
open Go.RowKit M

set_option maxHeartbeats 4000000 in
theorem walk_ParOrder (a : Option Addr) (n c : Nat) (I K : Int) (w : World) (h : ∃ l : List ByteArray, Txt w (.slice a n c) l ∧ n ≤ maxLen ∧ ∀ s ∈ l, s.size ≤ maxLen)
    (hI : (Lit.int .u8 I).wf = true) (hK : (Lit.int .u8 K).wf = true) :
    Calls Try.prog 4 #[.slice a n c, .int .u8 I, .int .u8 K] w fun e w' => e = .returned (.bool true) ∧ Below w.heap.size w w' := by
  obtain ⟨l, hT, hm, hz⟩ := h
  obtain ⟨hI0, hI1⟩ := bounds_u8 hI
  obtain ⟨hK0, hK1⟩ := bounds_u8 hK
  obtain ⟨i, rfl⟩ := Int.eq_ofNat_of_zero_le hI0
  obtain ⟨k, rfl⟩ := Int.eq_ofNat_of_zero_le hK0
  have HN := Lib.hid hT.len
  have HM : Hid (l.length ≤ maxLen) := Lib.hid (by rw [HN.out]; exact hm)
  have HT := Lib.hid hT
  have HZ := Lib.hid hz
  unfold maxLen at hm
  clear hT hz hI hK hI0 hK0
  go_enter Try.func4, Try.ntmps4
  go_wp2_with fail
  refine (awake_any _).mono ?_
  rintro e w1 ⟨rfl, b1⟩
  have HT1 := Lib.hid (HT.out.below b1)
  cases hf : fewL l with
  | false =>
    go_wp2_with fail
    refine (few_any l _ _ HT1.out HM.out HZ.out false hf).mono ?_
    rintro e w2 ⟨rfl, rfl⟩
    clear hf
    go_wp2_with fail
    refine (awake_any _).mono ?_
    rintro e w3 ⟨rfl, b3⟩
    go_wp2
    go_ret
    exact ⟨rfl, early2 b1 b3⟩
  | true =>
    go_wp2_with fail
    refine (few_any l _ _ HT1.out HM.out HZ.out true hf).mono ?_
    rintro e w2 ⟨rfl, rfl⟩
    obtain ⟨hl30, hs4⟩ := few_short hf
    have HS4 := Lib.hid hs4
    have hn30 : n < 30 := by rw [← HN.out]; exact hl30
    clear hf hl30 hs4
    by_cases hn0 : n = 0
    · subst hn0
      go_wp2_with fail
      refine (awake_any _).mono ?_
      rintro e w3 ⟨rfl, b3⟩
      go_wp2
      go_ret
      exact ⟨rfl, early2 b1 b3⟩
    · have hn0' : ((n : Int) == 0) = false := by rw [beq_eq_false_iff_ne]; omega
      have hpos : 0 < n := by omega
      cases he : evenL l with
      | false =>
        have HE := Lib.hid he
        clear he
        go_wp2_with fail
        refine (even_any l _ _ HT1.out HM.out false HE.out).mono ?_
        rintro e w2 ⟨rfl, b2⟩
        have b02 := early2 b1 b2
        go_wp2_with fail
        refine (awake_any _).mono ?_
        rintro e w3 ⟨rfl, b3⟩
        go_wp2
        go_ret
        exact ⟨rfl, early2 b02 b3⟩
      | true =>
        have HO : Hid (okL l = true) := Lib.hid (ok_iff.2 ⟨fun e => hn0 (by rw [← HN.out, e]; rfl), he⟩)
        have HE := Lib.hid he
        clear he
        go_wp2_with fail
        refine (even_any l _ _ HT1.out HM.out true HE.out).mono ?_
        rintro e w2 ⟨rfl, b2⟩
        have b02 := early2 b1 b2
        have HT2 := Lib.hid (HT.out.below b02)
        clear HT1 b1 b2 HE
        have hx : i % n < n := Nat.mod_lt _ hpos
        have hy : k % n < n := Nat.mod_lt _ hpos
        go_wp2_with fail
        go_quiet (fail)
        rw [show ((i : Int) % (n : Int)) = ((i % n : Nat) : Int) from (Int.natCast_emod i n).symm, show ((k : Int) % (n : Int)) = ((k % n : Nat) : Int) from (Int.natCast_emod k n).symm]
        generalize i % n = x at hx ⊢
        generalize k % n = y at hy ⊢
        have b03 : Below w.heap.size w (w2.drewN nq) := below_drewN b02 nq
        generalize w2.drewN nq = w3 at b03 ⊢
        clear HT2 b02 hI1 hK1
        have hB3 : w.heap.size ≤ w3.heap.size := b03.size
        have hO0 := own_none w3 w.heap.size hB3
        have hT3 := (HT.out.below b03).alloc (.cells #[] 9)
        go_wp2_with (at_builtin; refine wpList_append_txt _ rfl (.tmp 44) (.tmp 45) rfl w.heap.size _ _ [] l l n rfl rfl rfl HN.out hO0 hT3 (by simp; omega) (by omega) ?_; intro a4 c4 w4 hO4 b4 s4)
        have b04 := (b03.alloc hB3 (.cells #[] 9)).trans b4
        obtain ⟨g4, rfl, hg4, hg4', _, hnc4, hf4, hc4⟩ := hO4.at_ hpos
        obtain ⟨g, o, c', e, hcc, hg, hcell⟩ := HT.out.isSome (by rw [HN.out]; exact hpos)
        simp only [Value.slice.injEq] at e
        obtain ⟨rfl, -, rfl⟩ := e
        have hxl : x < l.length := by rw [HN.out]; exact hx
        have hyl : y < l.length := by rw [HN.out]; exact hy
        have hlx : w4.cell? ⟨g, o + x, none⟩ = some (.string l[x]) := by rw [b04.cell (p := ⟨g, o + x, none⟩) hg]; exact hcell x hxl
        have hly : w4.cell? ⟨g, o + y, none⟩ = some (.string l[y]) := by rw [b04.cell (p := ⟨g, o + y, none⟩) hg]; exact hcell y hyl
        have hmx := hc4 x hxl
        have hmy := hc4 y hyl
        have hfx := hf4 x hx
        have hfy := hf4 y hy
        obtain ⟨hw1, hw2⟩ := swap_par HO.out x y hxl hyl
        have hmem := swap_mem l x y hxl hyl
        have hlen : ((l.set x l[y]).set y l[x]).length = n := by simp [HN.out]
        have HSW := Lib.hid hw1
        have HSP := Lib.hid hw2
        have hOs := ((hO4.set x hx l[y]).set y hy l[x]).below (Below.refl _ _).drew
        generalize hL : (l.set x l[y]).set y l[x] = L at HSW HSP hOs hmem hlen
        generalize l[x] = sx at hlx hmx hOs hL
        generalize l[y] = sy at hly hmy hOs hL
        have HOS := Lib.hid hOs
        have HLX : Hid (∀ s ∈ L, s.size ≤ maxLen) := Lib.hid fun s hs => HZ.out s (hmem s hs)
        have HLN : Hid (L.length ≤ maxLen) := Lib.hid (by rw [hlen]; exact hm)
        clear hw1 hw2 hmem hlen hL hO0 hT3 s4 hc4 hf4 hcell hxl hyl hOs
        go_wp2_with fail
        have hcy : (w4.setCell ⟨g4, x, none⟩ (.string sy)).cell? ⟨g4, y, none⟩ = some (.string sy) := by
          by_cases e : x = y
          · subst e
            exact World.cell?_setCell_same _ _ _ hmx
          · rw [World.cell?_setCell_other _ _ _ _ (by intro h; apply e; cases h; rfl)]; exact hmy
        go_region
        have b05 : Below w.heap.size w ((w4.setCell ⟨g4, x, none⟩ (.string sy)).setCell ⟨g4, y, none⟩ (.string sx)).drew := (below_store (below_store b04 hg4 _) hg4 _).drew
        generalize ((w4.setCell ⟨g4, x, none⟩ (.string sy)).setCell ⟨g4, y, none⟩ (.string sx)).drew = w5 at b05 HOS ⊢
        clear hcy hmy hly hmx hlx hfy hfx hO4 hg4' b04 b4 hcc hg hg4 b03 hB3
        have HMK := Lib.hid (mk_ok HO.out)
        have HMS := Lib.hid (mk_ok HSW.out)
        rw [HSP.out] at HMS
        obtain ⟨t1, t2, t3⟩ := twice_par HO.out
        have HMT := Lib.hid (mk_ok t1)
        have HBT := Lib.hid t2
        have hps := par_small HO.out HS4.out
        have hts := t3
        clear t1 t2 t3
        generalize parB l = P at HMK HMS hts hps
        generalize parB (l ++ l) = T at HMT HBT hts
        have HT5 := Lib.hid (HT.out.below b05)
        go_wp2_with fail
        refine (make_any l _ _ HT5.out HM.out HZ.out).mono ?_
        rw [HMK.out.1, HMK.out.2]
        rintro e w6 ⟨rfl, b6⟩
        have b06 := early2 b05 b6
        have HO6 := Lib.hid (HOS.out.below b6)
        clear b05 b6 HOS HT5
        go_wp2_with fail
        refine (make_any L _ _ HO6.out.txt HLN.out HLX.out).mono ?_
        rw [HMS.out.1, HMS.out.2]
        rintro e w7 ⟨rfl, b7⟩
        have b07 := early2 b06 b7
        clear b06 b7 HO6
        have hB7 : w.heap.size ≤ w7.heap.size := b07.size
        have hO0 := own_none w7 w.heap.size hB7
        have hT3 := (HT.out.below b07).alloc (.cells #[] 9)
        go_wp2_with (first
          | (at_builtin; refine wpList_append_txt _ rfl (.tmp 72) (.tmp 73) rfl w.heap.size _ _ [] l l n rfl rfl rfl HN.out hO0 hT3 (by simp; omega) (by omega) ?_; intro a8 c8 w8 hO8 b8 s8; have b08 := (b07.alloc hB7 _).trans b8)
          | (at_builtin; refine wpList_append_txt _ rfl (.tmp 74) (.tmp 75) rfl w.heap.size _ _ l l (l ++ l) (n + n) rfl rfl rfl (by simp [HN.out]) hO8 (HT.out.below b08) b08.size (by omega) ?_; intro a9 c9 w9 hO9 b9 s9))
        have b09 := b08.trans b9
        refine (make_any (l ++ l) _ _ hO9.txt (by rw [hO9.txt.len]; unfold maxLen; omega) (fun s hs => HZ.out s (by rcases List.mem_append.1 hs with h1 | h1 <;> exact h1))).mono ?_
        rw [HMT.out.1, HMT.out.2]
        rintro e w10 ⟨rfl, b10⟩
        have b010 := early2 b09 b10
        clear b09 b10 b9 s9 b8 s8 b08 hO8 hO9 hO0 hT3 b07 hB7
        go_wp2_with fail
        refine (blank_any T _ (by unfold maxLen; omega) true HBT.out).mono ?_
        rintro e w11 ⟨rfl, rfl⟩
        go_wp2
        go_ret
        exact ⟨by simp, b010⟩
end Go.Proofs.Ytckfhphobjjojaa
