/-
  What a block is read as behind Read, and how many columns are mended in all (no program is named here).
  polderlaw10.awake: the document's example (its plain facts).
  polderlaw10.awake: the document's example.
-/
import Derived.Test.YtiffkbmcikiioaaGreatY46
import Derived.Test.YtiffkbmcikiioaaGreatY19
import Derived.Test.YtiffkbmcikiioaaGreatY48
import Derived.Test.YtiffkbmcikiioaaGreatY40

/- What a block is read as behind Read, and how many columns are mended in all (no program is named here). -/
namespace Go.Proofs.YtiffkbmcikiioaaGreat
set_option maxRecDepth 100000
open Go.RowKit Go.Maps M

section
variable {l : List (Int × Int)} {sc : Int} {p : Ptr} {z n : Nat} {ds : Nat → Dv} {aw : Nat → Bool}
/-- What devices read as, as it may be. -/
def RawP (l : List (Int × Int)) (p : Ptr) (z : Nat) (aw : Nat → Bool) (ds : Nat → Dv) : Prop := ∀ j, j < nP p → RawF (hereB ds aw) (LL l p z j) (RW ds aw l p z j)
theorem StX.rawP {X : Nat → Prop} {B : Nat} {w : World} {x : Px} {K : Nat} {P : World → Prop} (h : StX X B w x l ds aw K P) (hp : PR l x.sc p z) : RawP l p z aw ds := fun j hj => h.rawF (hp.blk j hj).2
theorem PR.rw_fix (hp : PR l sc p z) (hn : devsL l sc = (n : Int)) (s : ByteArray) (ds : Nat → Dv) {i j : Nat} (hi : i < nP p) (hj : j < nP p) :
    RW (fixP l aw p z s ds i) aw l p z j = if j = i then fixL (hereB ds aw) (LL l p z i) (EE l p z s i) (RW ds aw l p z i) else RW ds aw l p z j := by
  by_cases e : j = i
  · subst e
    rw [if_pos rfl, hp.fix hn aw s ds hi]
  · rw [if_neg e, hp.fixO aw s ds hi hj fun h => e h.symm]
theorem fixL_twice (hr : Nat → Bool) (L : List C) (E G : List ByteArray) : fixL hr L E (fixL hr L E G) = fixL hr L E G := by
  unfold fixL
  refine List.map_congr_left fun j hj => ?_
  have hj := List.mem_range.1 hj
  rw [show (List.map (fun j => if hr (devN L j) = true then E.getD j ⟨#[]⟩ else G.getD j ⟨#[]⟩) (List.range L.length)) = fixL hr L E G from rfl, fixL_at _ _ _ _ hj]
  cases hr (devN L j) <;> rfl
theorem readS_here (s : ByteArray) (i : Nat) : hereB (readS l aw p z s ds i) aw = hereB ds aw := by
  unfold readS
  split
  · exact fixP_here _ _ _ _ _ _ _
  · rw [fixP_here, fixP_here]
/-- What is read behind Read: the first place is mended, and the one where the block was found. -/
theorem PR.rw_read (hp : PR l sc p z) (hn : devsL l sc = (n : Int)) (s : ByteArray) {i j : Nat} (hi : i < nP p) (hj : j < nP p) :
    RW (readS l aw p z s ds i) aw l p z j = if j = 0 ∨ j = i then fixL (hereB ds aw) (LL l p z j) (EE l p z s j) (RW ds aw l p z j) else RW ds aw l p z j := by
  have h0 := nP_pos p
  unfold readS
  by_cases ei : i = 0
  · subst ei
    rw [if_pos rfl, hp.rw_fix hn s ds hi hj]
    by_cases ej : j = 0
    · subst ej; rw [if_pos rfl, if_pos (.inl rfl)]
    · rw [if_neg ej, if_neg (fun h => h.elim ej ej)]
  · rw [if_neg ei, hp.rw_fix hn s _ h0 hj, fixP_here]
    by_cases ej : j = 0
    · subst ej
      rw [if_pos rfl, if_pos (.inl rfl), hp.rw_fix hn s ds hi h0, if_neg (fun e => ei e.symm)]
    · rw [if_neg ej, hp.rw_fix hn s ds hi hj]
      by_cases e : j = i
      · subst e; rw [if_pos rfl, if_pos (.inr rfl)]
      · rw [if_neg e, if_neg (fun h => h.elim ej e)]
/-- The text that was found is found again. -/
theorem PR.again (hp : PR l sc p z) (hn : devsL l sc = (n : Int)) (hR : RawP l p z aw ds) {i : Nat} {d : Int} {s : ByteArray} (hf : lookTo p.q (TT l sc p z (RW ds aw l p z)) (nP p) = some (i, d, s)) (hs : s.size = z * 64) :
    ∃ i' d', lookTo p.q (TT l sc p z (RW (readS l aw p z s ds i) aw l p z)) (nP p) = some (i', d', s) := by
  obtain ⟨hi, hhit, _⟩ := lookTo_some hf
  obtain ⟨hmem, hsum⟩ := hitQ_some hhit
  have h0 := nP_pos p
  have hm : ∀ j, j < nP p → (j = 0 ∨ j = i) → (∀ y ∈ TT l sc p z (RW (readS l aw p z s ds i) aw l p z) j, y.2 = s) ∧ (TT l sc p z (RW (readS l aw p z s ds i) aw l p z) j).length = (TT l sc p z (RW ds aw l p z) j).length := fun j hj hji => by
    obtain ⟨_, hb⟩ := hp.blk j hj
    obtain ⟨kk, u, hE⟩ := hb.enc7 hs
    unfold TT
    rw [hp.rw_read hn s hi hj, if_pos hji]
    exact hE.mended (hR j hj)
  have hi' := hm i hi (.inr rfl)
  have hne : TT l sc p z (RW (readS l aw p z s ds i) aw l p z) i ≠ [] := fun e => by
    have h2 := hi'.2
    rw [e] at h2
    have := List.length_pos_of_mem hmem
    simp at h2
    omega
  have hz0 := hm 0 h0 (.inl rfl)
  by_cases e0 : TT l sc p z (RW (readS l aw p z s ds i) aw l p z) 0 = []
  · have ei : i = 1 := by
      have := nP_le p
      have : i ≠ 0 := fun e => by subst e; exact hne e0
      omega
    subst ei
    have hn2 : nP p = 2 := by have := nP_le p; omega
    obtain ⟨d', hd⟩ := hitQ_all hi'.1 hsum hne
    refine ⟨1, d', ?_⟩
    rw [hn2]
    have hmiss : lookTo p.q (TT l sc p z (RW (readS l aw p z s ds 1) aw l p z)) 1 = none := lookTo_miss rfl (hitQ_no fun x hx => by rw [e0] at hx; cases hx)
    exact lookTo_hit hmiss hd
  · obtain ⟨d', hd⟩ := hitQ_all hz0.1 hsum e0
    exact ⟨0, d', lookTo_stay (lookTo_hit rfl hd) _ h0⟩
/-- How many columns are mended in all. -/
theorem PR.scrubbed (hp : PR l sc p z) (hn : devsL l sc = (n : Int)) (s : ByteArray) {i : Nat} (hi : i < nP p) :
    scN l aw p z s ds i (nP p) = unlP l aw p z s ds 0 + (if p.two then unlP l aw p z s ds 1 else 0) := by
  have h0 := nP_pos p
  have hr0 : unlP l aw p z s (readS l aw p z s ds i) 0 = 0 := by
    unfold readS
    split
    · exact hp.unl_fix hn aw s ds h0
    · exact hp.unl_fix hn aw s _ h0
  cases h2 : p.two with
  | false =>
    have n1 : nP p = 1 := by unfold nP; rw [h2]; rfl
    rw [n1]
    obtain rfl : i = 0 := by omega
    show scN l aw p z s ds 0 0 + unlP l aw p z s (scS l aw p z s ds 0 0) 0 = _
    show readN l aw p z s ds 0 + unlP l aw p z s (readS l aw p z s ds 0) 0 = _
    rw [hr0]
    unfold readN
    rw [if_pos rfl]
    simp
  | true =>
    have n2 : nP p = 2 := by unfold nP; rw [h2]; rfl
    have h1 : 1 < nP p := by omega
    rw [n2, if_pos rfl]
    show readN l aw p z s ds i + unlP l aw p z s (readS l aw p z s ds i) 0 + unlP l aw p z s (fixP l aw p z s (readS l aw p z s ds i) 0) 1 = _
    rw [hr0, hp.unl_fixO aw s _ h0 h1 (by decide)]
    unfold readN readS
    by_cases ei : i = 0
    · subst ei
      rw [if_pos rfl, if_pos rfl, hp.unl_fixO aw s ds h0 h1 (by decide)]
      omega
    · obtain rfl : i = 1 := by omega
      rw [if_neg ei, if_neg ei, hp.unl_fixO aw s ds hi h0 (by decide), hp.unl_fixO aw s _ h0 h1 (by decide), hp.unl_fix hn aw s ds hi]
      omega
end
end Go.Proofs.YtiffkbmcikiioaaGreat

/- polderlaw10.awake: the document's example (its plain facts). -/
namespace Go.Proofs.YtiffkbmcikiioaaGreat
set_option maxRecDepth 100000
open Go.RowKit Go.Shelf Go.Maps M

theorem ex8_blk24 : Blk [(0, 2)] 24 0 0 1 := ex8_blk
def exP (q : Q) : Ptr := ⟨0, 0, 0, 0, false, 1, 0, 1, q⟩
def exT : ByteArray := strOf (spoilt (List.replicate 64 (0 : UInt8)) 3 9)
theorem ex10_right (q : Q) : rightP [(0, 2)] 24 (exP q) = true := by rfl
theorem ex10_ok (q : Q) (h : q.Ok) : (exP q).Ok := ⟨show I64 0 by decide, show I64 0 by decide, show I64 0 by decide, show I64 0 by decide, show I64 1 by decide, show I64 0 by decide, show I64 1 by decide, h⟩
theorem ex10_enc : encOf [(0, 2)] 0 0 1 (zeroB 64) = [zeroB 64, zeroB 64] := by kernel_rfl
theorem ex10_tries : triesOf [(0, 2)] 24 0 0 1 [exT, zeroB 64] = [(0, exT), (1, zeroB 64)] := by kernel_rfl
theorem ex10_sum : sameQ (sumB exT) (sumB (zeroB 64)) = false := by kernel_rfl
theorem ex10_ne : neB exT (zeroB 64) = true := by kernel_rfl
theorem ex10_zero : (zeroB 64).data.toList = List.replicate 64 (0 : UInt8) := by kernel_rfl
/-- The devices of the example, one copy spoilt. -/
theorem ex10_state {D : Dv} (hD : D.lost = false) (hl : (D.med.length : Int) = 24) {aw : Nat → Bool} (haw : aw = fun _ => false) (ds : Nat → Dv)
    (hds : ds = upd (wrTo (fun _ => D) aw (colsOf [(0, 2)] 0 0 1) (encOf [(0, 2)] 0 0 1 (zeroB 64)) (colsOf [(0, 2)] 0 0 1).length) 0 (spoilD8 (wrTo (fun _ => D) aw (colsOf [(0, 2)] 0 0 1) (encOf [(0, 2)] 0 0 1 (zeroB 64)) (colsOf [(0, 2)] 0 0 1).length 0) 16 3 9)) :
    hereB ds aw = (fun _ => true) ∧ rawL ds aw (colsOf [(0, 2)] 0 0 1) = [exT, zeroB 64] := by
  have hA : ApartN (colsOf [(0, 2)] 0 0 1) := ex8_blk24.apartN (n := 2) ex8_devs
  have hE0 : (encOf [(0, 2)] 0 0 1 (zeroB 64)).getD 0 ⟨#[]⟩ = zeroB 64 := by rw [ex10_enc]; rfl
  have hE1 : (encOf [(0, 2)] 0 0 1 (zeroB 64)).getD 1 ⟨#[]⟩ = zeroB 64 := by rw [ex10_enc]; rfl
  generalize encOf [(0, 2)] 0 0 1 (zeroB 64) = E at *
  have hz := ex10_zero
  generalize zeroB 64 = Z at *
  have hL := ex8_cols
  have hd0 : devN (colsOf [(0, 2)] 0 0 1) 0 = 0 ∧ atN (colsOf [(0, 2)] 0 0 1) 0 = 16 := by rw [hL]; exact ⟨rfl, rfl⟩
  have hd1 : devN (colsOf [(0, 2)] 0 0 1) 1 = 1 ∧ atN (colsOf [(0, 2)] 0 0 1) 1 = 16 := by rw [hL]; exact ⟨rfl, rfl⟩
  have hlen : (colsOf [(0, 2)] 0 0 1).length = 2 := by rw [hL]; rfl
  clear hL
  generalize colsOf [(0, 2)] 0 0 1 = L at *
  have hh1 : ∀ d, hereB (fun _ => D) aw d = true := fun d => by rw [haw]; simp [hereB, hD]
  have hw := wrTo_here (fun _ => D) aw L E L.length
  have hn : ∀ j, j < 2 → (wrTo (fun _ => D) aw L E L.length j).now 16 = List.replicate 64 (0 : UInt8) := fun j hj => by
    have := wrTo_now hA (fun _ => D) aw E _ (Nat.le_refl _) j (by omega)
    rw [if_pos ⟨by omega, hh1 _⟩] at this
    rcases (show j = 0 ∨ j = 1 by omega) with rfl | rfl
    · rw [hd0.1, hd0.2, hE0, hz] at this; exact this
    · rw [hd1.1, hd1.2, hE1, hz] at this; exact this
  have hlost := fun i => wrTo_lost (fun _ => D) aw L E L.length i
  have hmed := fun i => wrTo_med (fun _ => D) aw L E L.length i
  clear hE0 hE1
  generalize wrTo (fun _ => D) aw L E L.length = d1 at *
  have hh2 : hereB ds aw = fun _ => true := by
    rw [hds, hereB_spoil, hw]
    funext d
    exact hh1 d
  refine ⟨hh2, ?_⟩
  have hsp : spoilB8 (d1 0) 16 9 = true := by
    unfold spoilB8 reachE
    rw [hlost, hD, hmed]
    simp [hl]
  have e0 : (ds 0).now 16 = spoilt (List.replicate 64 (0 : UInt8)) 3 9 := by
    rw [hds, upd_same]
    unfold spoilD8
    rw [hsp, if_pos rfl]
    show ((d1 0).turn 16 (spoilt ((d1 0).now 16) 3 9)).now 16 = _
    rw [turn_now _ _ (by rw [hmed]; omega), if_pos rfl, hn 0 (by omega)]
  have e1 : (ds 1).now 16 = List.replicate 64 (0 : UInt8) := by
    rw [hds, upd_other _ _ (by decide), hn 1 (by omega)]
  have hr : rawL ds aw L = [rawAt ds aw L 0, rawAt ds aw L 1] := by
    unfold rawL
    rw [hlen]
    rfl
  have hs : strOf (List.replicate 64 (0 : UInt8)) = Z := by rw [← hz, strOf_data]
  rw [hr]
  unfold rawAt
  rw [hh2, hd0.1, hd0.2, hd1.1, hd1.2, e0, e1, if_pos rfl, hs]
  rfl
theorem ex10_unl : unlN (fun _ => true) (colsOf [(0, 2)] 0 0 1) (encOf [(0, 2)] 0 0 1 (zeroB 64)) [exT, zeroB 64] = 1 := by
  have hlen : (colsOf [(0, 2)] 0 0 1).length = 2 := by rw [ex8_cols]; rfl
  rw [ex10_enc]
  unfold unlN
  rw [hlen]
  have h1 := ex10_ne
  have h0 : neB (zeroB 64) (zeroB 64) = false := neB_false.2 rfl
  generalize exT = T at *
  generalize zeroB 64 = Z at *
  show ([0, 1] : List Nat).countP (fun j => true && neB ([T, Z].getD j ⟨#[]⟩) ([Z, Z].getD j ⟨#[]⟩)) = 1
  simp [h1, h0]
theorem lookTo_two {q : Q} {T : Nat → List (Int × ByteArray)} {x y : Int × ByteArray} (h : T 0 = [x, y]) (h1 : sameQ (sumB x.2) q = false) (h2 : sumB y.2 = q) : lookTo q T 1 = some (0, y.1, y.2) := by
  refine lookTo_hit (n := 0) rfl ?_
  rw [h]
  refine hitQ_at (i := 1) (y := y) rfl h2 fun v hx e => ?_
  have hx' : v = x := by simpa using hx
  subst hx'
  rw [sameQ_iff.2 e] at h1
  cases h1
theorem ex10_read {x : Px} {B : Nat} {w : World} {ds : Nat → Dv} {K : Nat} {P : World → Prop} (h : St B w x [(0, 2)] ds (fun _ => false) K P) (hsc : x.sc = 24) (hK : K < 3000000000) (hh : hereB ds (fun _ => false) = fun _ => true) (hr : rawL ds (fun _ => false) (colsOf [(0, 2)] 0 0 1) = [exT, zeroB 64]) :
    Calls Tryz.prog 12 #[x.val, (exP (sumB (zeroB 64))).val] w fun e w' => e = .returned (.tuple #[.agg #[.string (zeroB 64), .int .i64 0, .int .i64 1, .int .i64 1], .int .i64 0]) ∧ (∃ ds', St B w' x [(0, 2)] ds' (fun _ => false) (K + 64) P) ∧ Below B w w' := by
  obtain ⟨z, hp⟩ := PR.of (l := [(0, 2)]) (sc := x.sc) (ex10_ok (sumB (zeroB 64)) (sumQ_ok _ _ zeroQ_ok)) (by rw [hsc]; exact ex10_right _)
  have hz : z = 1 := by
    have : (1 : Int) = (z : Int) := hp.sz
    omega
  subst hz
  have hT : TT [(0, 2)] x.sc (exP (sumB (zeroB 64))) 1 (RW ds (fun _ => false) [(0, 2)] (exP (sumB (zeroB 64))) 1) 0 = [(0, exT), (1, zeroB 64)] := by
    show triesOf [(0, 2)] x.sc 0 0 1 (rawL ds (fun _ => false) (colsOf [(0, 2)] 0 0 1)) = _
    rw [hr, hsc]
    exact ex10_tries
  have hf : lookTo (exP (sumB (zeroB 64))).q (TT [(0, 2)] x.sc (exP (sumB (zeroB 64))) 1 (RW ds (fun _ => false) [(0, 2)] (exP (sumB (zeroB 64))) 1)) (nP (exP (sumB (zeroB 64)))) = some (0, 1, zeroB 64) := by
    exact lookTo_two hT ex10_sum rfl
  have hN : readN [(0, 2)] (fun _ => false) (exP (sumB (zeroB 64))) 1 (zeroB 64) ds 0 = 1 := by
    unfold readN unlP
    rw [if_pos rfl, hh]
    show unlN (fun _ => true) (colsOf [(0, 2)] 0 0 1) (encOf [(0, 2)] 0 0 1 (zeroB 64)) (rawL ds (fun _ => false) (colsOf [(0, 2)] 0 0 1)) = 1
    rw [hr]
    exact ex10_unl
  have := hread_ok h hp hf hK
  rw [hN] at this
  exact this.mono fun e w' ⟨h1, h2, h3⟩ => ⟨h1, ⟨_, h2⟩, h3⟩
end Go.Proofs.YtiffkbmcikiioaaGreat

/- polderlaw10.awake: the document's example. -/
namespace Go.Proofs.YtiffkbmcikiioaaGreat
set_option maxRecDepth 100000
open Go.RowKit Go.Shelf Go.Maps M

set_option maxHeartbeats 4000000 in
theorem awake10 (w : World) : Calls Tryz.prog 8 #[] w fun e w' => e = .returned (.bool true) ∧ Below w.heap.size w w' := by
  have hM : Meas (w.alloc (.cells #[.int .i64 0, .int .i64 2] 53)) (.agg #[.slice (some ⟨w.heap.size, 0, none⟩) 1 1, .int .i64 24]) [(0, 2)] 24 := by
    refine ⟨_, _, _, rfl, ⟨by decide, rfl, fun i hi => ?_⟩, by omega, by omega⟩
    obtain rfl : i = 0 := by simpa using hi
    exact ⟨_, _, rfl, ⟨by simp, by simp, by simp, by simp, by simp, by simp, by simp⟩⟩
  have HN := Lib.hid (new8_ok [(0, 2)] 24 _ _ hM ex8_right 0)
  have HB0 := Lib.hid (boxed w (.cells #[.int .i64 0, .int .i64 2] 53))
  clear hM
  go_enter Tryz.func8, Tryz.ntmps8
  go_wp2_with fail
  refine HN.out.mono ?_
  rintro e w3 ⟨x, rfl, hsc, h3, b3⟩
  have hxn : x.n = 2 := by
    have := h3.right.2
    rw [hsc, ex8_devs] at this
    omega
  have HSC := Lib.hid hsc
  have hbx := boxed w3 (.cells #[.slice x.ga x.gn x.gc, .int .i64 x.sc, .slice (some ⟨x.lb, 0, none⟩) x.n x.n, .slice (some ⟨x.ab, 0, none⟩) x.n x.n] 37)
  have HS4 := Lib.hid (((h3.add hbx (BoxX.new w3 x _ (Nat.le_refl _) 37)).mono (Q := BoxX x w3.heap.size) fun w h => h.2).lower (B' := w.heap.size) (by simp))
  have HB4 := Lib.hid (next (next HB0.out b3) hbx)
  obtain ⟨f0, f1, f2, f3⟩ := HS4.out.out
  have hne : ((x.n : Int) == 2) = true := by rw [hxn]; rfl
  have hnn : ((x.n : Int) != 2) = false := by rw [hxn]; rfl
  have h1n : (0 : Int) < (x.n : Int) := by rw [hxn]; decide
  have h1n' : 0 < x.n := by omega
  have HXN := Lib.hid hxn
  clear h3 b3 hbx HB0 hsc hxn
  unfold Px.val
  obtain ⟨D, hD⟩ : ∃ D, (newDv (Int.toNat 24)).fresh 0 = D := ⟨_, rfl⟩
  have hD1 : D.lost = false := by rw [← hD]; rfl
  have hD2 : (D.med.length : Int) = 24 := by rw [← hD]; rfl
  rw [hD] at HS4
  have HD1 := Lib.hid hD1
  have HD2 := Lib.hid hD2
  clear hD hD1 hD2
  have hmk : ∀ V, (Instr.makeSlice 79 (.int .i64 64) (.int .i64 64)).run Tryz.prog V = .ok (.slice (some ⟨V.heap.size, 0, none⟩) 64 64) (zerosW V 64) := fun V => make_zeros V 64 (by decide)
  have hcv : ∀ V : World, (convert 79 9 (.slice (some ⟨V.heap.size, 0, none⟩) 64 64)).run Tryz.prog (zerosW V 64) = .ok (.string (zeroB 64)) (zerosW V 64) := fun V => conv_zeros V 64
  go_upto_region 4 with (fail)
  obtain ⟨bx, hbx⟩ : ∃ bx, w3.heap.size = bx := ⟨_, rfl⟩
  obtain ⟨w4, hw4⟩ : ∃ w4, w3.alloc (.cells #[.slice x.ga x.gn x.gc, .int .i64 x.sc, .slice (some ⟨x.lb, 0, none⟩) x.n x.n, .slice (some ⟨x.ab, 0, none⟩) x.n x.n] 37) = w4 := ⟨_, rfl⟩
  rw [hw4] at HS4 HB4 f0 f1 f2 f3 ⊢
  rw [hbx] at HS4 f0 f1 f2 f3 ⊢
  clear hw4 hbx
  have hcv4 := hcv w4
  clear hcv
  have HS5 := Lib.hid (HS4.out.below (zerosW_below w4 64))
  have HB5 := Lib.hid (next HB4.out (zerosW_below w4 64))
  have hBl : Blk [(0, 2)] x.sc 0 0 1 := by rw [HSC.out]; exact ex8_blk
  have hs : (zeroB 64).size = 1 * 64 := by rw [zeroB_size]
  have hW := write8_ok HS5.out 0 0 1 hBl (zeroB 64) (by omega) hs (hBl.puts hs HS5.out.right.2) (by omega)
  rw [failN_here (fun _ => HD1.out)] at hW
  have he : errN (([(0, 2)] : List (Int × Int))[0]'hBl.hk) 0 = 0 := by rfl
  rw [he] at hW
  obtain ⟨d1, hd1⟩ : ∃ d1, wrTo (fun _ => D) (fun _ => false) (colsOf [(0, 2)] 0 0 1) (encOf [(0, 2)] 0 0 1 (zeroB 64)) (colsOf [(0, 2)] 0 0 1).length = d1 := ⟨_, rfl⟩
  rw [hd1] at hW
  have HW : Hid (Calls Tryz.prog 28 #[x.val, .agg #[.int .i64 0, .int .i64 0], .string (zeroB 64)] (zerosW w4 64) fun e w' => e = .returned (.tuple #[.int .i64 0, .int .i64 0]) ∧ St w.heap.size w' x [(0, 2)] d1 (fun _ => false) (0 + 32) (BoxX x bx) ∧ Below w.heap.size (zerosW w4 64) w') := Lib.hid hW
  have HD4 := Lib.hid hd1
  clear hW he hBl hs hd1 HS4 HB4
  unfold Px.val at HW
  obtain ⟨Z, hZ⟩ : ∃ Z, zeroB 64 = Z := ⟨_, rfl⟩
  rw [hZ] at HW hcv4
  have HZZ := Lib.hid hZ
  clear hZ f0 f1 f2 f3
  obtain ⟨f0, f1, f2, f3⟩ := HS5.out.out
  go_wp2_with fail
  refine HW.out.mono ?_
  rintro e w6 ⟨rfl, h6, b6⟩
  have HB6 := Lib.hid (HB5.out.trans b6)
  obtain ⟨bp, cb, hsp⟩ := spoil8_any h6 h1n' 16 3 9
  have HSP : Hid (Calls Tryz.prog 10 #[.pointer (some ⟨bp, 0, none⟩), .int .i64 16, .int .i64 3, .int .u8 9] w6 fun e w' => ∃ v, e = .returned (.bool v) ∧ St w.heap.size w' x [(0, 2)] (upd d1 0 (spoilD8 (d1 0) 16 3 9)) (fun _ => false) (0 + 32) (BoxX x bx) ∧ Below w.heap.size w6 w' ∧ w'.heap[x.lb]? = w6.heap[x.lb]?) := Lib.hid (hsp w6 (Below.refl _ _))
  clear f0 f1 f2 f3 hcv4 hmk hsp b6 HW
  obtain ⟨f0, f1, f2, f3⟩ := h6.out
  clear h6
  go_wp2_with fail
  refine HSP.out.mono ?_
  rintro e w7 ⟨v7, rfl, h7, b7, _⟩
  have HB7 := Lib.hid (HB6.out.trans b7)
  have hst := ex10_state HD1.out HD2.out rfl (upd d1 0 (spoilD8 (d1 0) 16 3 9)) (by rw [HD4.out])
  obtain ⟨d2, hd2⟩ : ∃ d2, upd d1 0 (spoilD8 (d1 0) 16 3 9) = d2 := ⟨_, rfl⟩
  rw [hd2] at h7 hst
  have HS7 := Lib.hid h7
  have HST := Lib.hid hst
  clear f0 f1 f2 f3 cb HSP HS5 HB5 HB6 h7 hst hd2 b7
  go_upto_region 7 with (fail)
  have HSM := Lib.hid (fun W => sum_any Z W (by rw [← HZZ.out, zeroB_size]; decide))
  obtain ⟨r, hr⟩ : ∃ r, sumQ zeroQ (wordsB Z) = r := ⟨_, rfl⟩
  have HRD : Hid (∀ (P : World → Prop) (W : World), St w.heap.size W x [(0, 2)] d2 (fun _ => false) (0 + 32) P → Calls Tryz.prog 12 #[.agg #[.slice x.ga x.gn x.gc, .int .i64 x.sc, .slice (some ⟨x.lb, 0, none⟩) x.n x.n, .slice (some ⟨x.ab, 0, none⟩) x.n x.n], .agg #[.int .i64 0, .int .i64 0, .int .i64 0, .int .i64 0, .bool false, .int .i64 1, .int .i64 0, .int .i64 1, .int .u64 r.a, .int .u64 r.b, .int .u64 r.c, .int .u64 r.d]] W fun e w' => e = .returned (.tuple #[.agg #[.string Z, .int .i64 0, .int .i64 1, .int .i64 1], .int .i64 0]) ∧ (∃ ds', St w.heap.size w' x [(0, 2)] ds' (fun _ => false) (0 + 32 + 64) P) ∧ Below w.heap.size W w') := Lib.hid fun P W hW => by
    have h1 := ex10_read hW HSC.out (by omega) HST.out.1 (by rw [HST.out.2])
    rw [HZZ.out] at h1
    have h2 : sumB Z = r := hr
    rw [h2] at h1
    exact h1
  rw [hr] at HSM
  have H7d := HS7.out.below (Below.refl _ w7).drew
  have H7a := (HS7.out.add (boxed w7 (.cells #[.string ⟨#[]⟩, .int .i64 0, .int .i64 0, .int .i64 0] 45)) (CameC.new w7 ⟨#[]⟩ 0 0 0 _ (Nat.le_refl _))).below (Below.refl _ _).drew
  have HB7d : Below w.heap.size w w7.drew := HB7.out.drew
  have HB7a : Below w.heap.size w (w7.alloc (.cells #[.string ⟨#[]⟩, .int .i64 0, .int .i64 0, .int .i64 0] 45)).drew := (next HB7.out (boxed w7 _)).drew
  obtain ⟨f0, f1, f2, f3⟩ := HS7.out.out
  have H7b := HS7.out.add (boxed w7 (.cells #[.string ⟨#[]⟩, .int .i64 0, .int .i64 0, .int .i64 0] 45)) (CameC.new w7 ⟨#[]⟩ 0 0 0 _ (Nat.le_refl _))
  obtain ⟨⟨a0, a1, a2, a3⟩, _⟩ := H7b.out
  clear H7b
  have hz7 := HB7.out.size
  have e1 : (Z.toList == Z.toList) = true := beq_self_eq_true _
  go_region_with (first
    | (go_at_call 14; refine (HSM.out _).mono ?_; rintro e w8 ⟨rfl, b8⟩; (first | have H8 := Lib.hid (H7d.below b8) | have H8 := Lib.hid (H7a.below b8)); (first | have HB8 := Lib.hid (next HB7d b8) | have HB8 := Lib.hid (next HB7a b8)); have G8 : BoxX x bx w8 := (by first | exact H8.out.out | exact H8.out.out.1); obtain ⟨g0, g1, g2, g3⟩ := G8; have H8a := Lib.hid (H8.out.add (boxed w8 (.cells #[.string ⟨#[]⟩, .int .i64 0, .int .i64 0, .int .i64 0] 45)) (CameC.new w8 ⟨#[]⟩ 0 0 0 _ (Nat.le_refl _))); have K8 : BoxX x bx _ := (by first | exact H8a.out.out.1 | exact H8a.out.out.1.1); obtain ⟨k0, k1, k2, k3⟩ := K8; have hz8 := HB8.out.size; clear b8)
    | (go_at_call 12; (first | refine (HRD.out _ _ H8.out).mono ?_ | refine (HRD.out _ _ H8a.out).mono ?_); rintro e w9 ⟨rfl, ⟨d3, h9⟩, b9⟩; (first | have HB9 := Lib.hid (HB8.out.trans b9) | have HB9 := Lib.hid ((next HB8.out (boxed w8 _)).trans b9)); have hz9 := HB9.out.size; (try (have M9 : CameC _ ⟨#[]⟩ 0 0 0 w9 := (by first | exact h9.out.1.2 | exact h9.out.2); obtain ⟨m0, m1, m2, m3, n0, n1, n2, n3⟩ := M9)); clear b9))
  all_goals
    go_wp2
    go_ret
    refine ⟨rfl, ?_⟩
    repeat (first | with_reducible exact HB9.out | (refine Below.setCell (p := ⟨_, _, none⟩) ?_ (by show _ ≤ _; omega) _) | (refine Below.alloc ?_ (by omega) _) | refine Below.drew ?_)
end Go.Proofs.YtiffkbmcikiioaaGreat
