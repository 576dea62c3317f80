/-
  code.fitting, code.Fits: columns that were read.
  A range over a function whose iterator keeps its place in cells of its own: a law for the statement, and the contract that such an iterator is to meet. No program is named here.
  The law for a range over a function once more: what is handed out is several values.
  Numbers sorted, each once.
  cols.Devs: the devices of columns, rising, each once.
  code.without: the data columns, a device's made again.
  code.ofMirror, code.ofParity, code.Tries: what is answered is a function that hands out tries.
  code.ofMirror: the function that it answers hands out the tries of a Mirror's columns.
  code.ofParity: the function that it answers hands out the tries of a Parity's columns.
  The devices of a block's columns: how many there are.
  code.Tries: a function that hands out what columns may come to.
  code.Tries of any columns.
-/
import Derived.Test.YtlhnmcopioeboaaGreatMd
import Derived.RangeFuncCalls
import Derived.RangeFuncLeaves
import Derived.RangeFuncBound
import Derived.Below
import Derived.Test.YtlhnmcopioeboaaGreatChecked
import Derived.Lib.SlicesCompact
import Derived.Sort.OwnSorted
import Derived.Sort.OwnSortedInts
import Derived.Shelf.Abstract
import Derived.Shelf.RegionOpen
import Derived.OwnWalkIn
import Derived.TacticsInMore
import Derived.LoopNIn
import Derived.LoopIn

/- code.fitting, code.Fits: columns that were read. -/
namespace Go.Proofs.YtlhnmcopioeboaaGreat
set_option maxRecDepth 100000
open Go.RowKit M

/-- A column's text, or nothing. -/
def secT (s : ByteArray) : Bool := s.size == 0 || s.size == 64
def fitL (G : List ByteArray) : Bool := G.all secT
theorem empty_txt (s : ByteArray) : s.toList.isEmpty = (s.size == 0) := by
  rw [ByteArray.toList_eq, sizeL]
  cases s.data.toList <;> simp

theorem fitting1_any (s : ByteArray) (w : World) (b : Bool) (hb : secT s = !b) :
    Calls Tryz.prog 48 #[.string s] w fun e w' => e = .returned (.bool b) ∧ w = w' := by
  have hq := empty_txt s
  unfold secT at hb
  obtain ⟨n, hn⟩ : ∃ n, s.size = n := ⟨_, rfl⟩
  rw [hn] at hb hq
  by_cases h0 : n = 0
  · subst h0
    obtain rfl : b = false := by cases b <;> simp at hb ⊢
    have hq' : s.toList.isEmpty = true := by rw [hq]; rfl
    clear hq hb
    go_enter Tryz.func48, Tryz.ntmps48
    go_wp2
    go_ret
    exact ⟨rfl, rfl⟩
  · have hq' : s.toList.isEmpty = false := by rw [hq]; simp [h0]
    have hb' : ((n : Int) == 64) = !b := by
      rw [← hb]
      have : (n == 0) = false := by simp [h0]
      rw [this, Bool.false_or]
      by_cases h : n = 64
      · subst h; rfl
      · rw [show (n == 64) = false by simp [h]]; simp; omega
    clear hq hb
    cases b with
    | true =>
      have hc : ((n : Int) != 64) = true := by unfold bne; rw [hb']; rfl
      clear hb'
      go_enter Tryz.func48, Tryz.ntmps48
      go_wp2
      go_ret
      exact ⟨rfl, rfl⟩
    | false =>
      have hc : ((n : Int) != 64) = false := by unfold bne; rw [hb']; rfl
      clear hb'
      go_enter Tryz.func48, Tryz.ntmps48
      go_wp2
      go_ret
      exact ⟨rfl, rfl⟩

def fitTo (l : List ByteArray) (k : Nat) : Prop := ∀ j (h : j < l.length), j < k → secT l[j] = true
theorem fitTo_all {l : List ByteArray} (h : fitTo l l.length) : fitL l = true := by
  unfold fitL
  rw [List.all_eq_true]
  intro s hs
  obtain ⟨j, hj, rfl⟩ := List.getElem_of_mem hs
  exact h j hj hj
theorem fit_not {l : List ByteArray} {k : Nat} (hk : k < l.length) (h : secT l[k] = false) : fitL l = false := by
  unfold fitL
  rw [List.all_eq_false]
  exact ⟨_, List.getElem_mem hk, by simp [h]⟩

set_option maxHeartbeats 1000000 in
theorem findex_any (l : List ByteArray) (v : Value) (w : World) (h : Txt w v l) (hm : l.length ≤ 100000) :
    Calls Tryz.prog 66 #[v, .func (.func 48) #[] #[]] w fun e w' =>
      ∃ k : Int, e = .returned (.int .i64 k) ∧ (fitL l = true → k = -1) ∧ (fitL l = false → 0 ≤ k) ∧ w = w' := by
  obtain ⟨a, c, rfl, hcc, hj⟩ := h
  have HJ := Lib.hid hj
  clear hj
  generalize hn : l.length = n at hm hcc
  have HN := Lib.hid hn
  clear hn
  go_enter Tryz.func66, Tryz.ntmps66
  go_wp2_with fail
  go_loop [8] (fun i => ∃ k : Nat, k ≤ n ∧ i = .int .i64 k ∧ Hid (fitTo l k)) (fun i => n - (intOf i).toNat)
  case atStart => exact ⟨0, Nat.zero_le _, rfl, Lib.hid fun j _ hj => absurd hj (Nat.not_lt_zero _)⟩
  case round =>
    obtain ⟨k, hk, rfl, H⟩ := hrel
    by_cases hlt : k < n
    · have hlt' : k < l.length := by rw [HN.out]; exact hlt
      obtain ⟨g, o, rfl, hg, hck⟩ := HJ.out k hlt'
      generalize hs : l[k] = s at hck
      have HS : Hid (∃ h : k < l.length, l[k] = s) := Lib.hid ⟨hlt', hs⟩
      clear hs hlt'
      cases hz : secT s with
      | true =>
        have HZ := Lib.hid hz
        clear hz
        go_wp2_with fail
        refine (fitting1_any s _ false HZ.out).mono ?_
        rintro e w1 ⟨rfl, rfl⟩
        go_wp2
        go_round
        case rel =>
          refine ⟨k + 1, by omega, by go_num, Lib.hid fun j hj hjk => ?_⟩
          by_cases e : j = k
          · subst e
            obtain ⟨_, hs⟩ := HS.out
            rw [hs]; exact HZ.out
          · exact H.out j hj (by omega)
        case measure => simp [intOf]; omega
      | false =>
        have HZ := Lib.hid hz
        clear hz
        go_wp2_with fail
        refine (fitting1_any s _ true HZ.out).mono ?_
        rintro e w1 ⟨rfl, rfl⟩
        go_wp2
        go_ret
        have hno : fitL l = false := by
          obtain ⟨hk', hs⟩ := HS.out
          exact fit_not hk' (by rw [hs]; exact HZ.out)
        exact ⟨k, rfl, fun h => by (rw [hno] at h; cases h), fun _ => by omega, rfl⟩
    · go_wp2
      go_ret
      have hyes : fitL l = true := fitTo_all (by
        obtain rfl : k = n := by omega
        rw [HN.out]; exact H.out)
      exact ⟨-1, rfl, fun _ => rfl, fun h => by (rw [hyes] at h; cases h), rfl⟩
theorem fcontains_any (l : List ByteArray) (v : Value) (w : World) (h : Txt w v l) (hm : l.length ≤ 100000) (b : Bool) (hb : fitL l = b) :
    Calls Tryz.prog 47 #[v, .func (.func 48) #[] #[]] w fun e w' => e = .returned (.bool (!b)) ∧ w = w' := by
  have HI := Lib.hid (findex_any l v w h hm)
  have HB := Lib.hid hb
  clear h hm hb
  go_enter Tryz.func47, Tryz.ntmps47
  go_wp2_with fail
  refine HI.out.mono ?_
  rintro e w1 ⟨k, rfl, h1, h2, rfl⟩
  rw [HB.out] at h1 h2
  cases b with
  | true =>
    obtain rfl := h1 rfl
    go_wp2
    go_ret
    exact ⟨rfl, rfl⟩
  | false =>
    have hk := h2 rfl
    clear h1 h2
    go_wp2
    go_ret
    exact ⟨rfl, rfl⟩

/-- The columns of a block that may be there. -/
def colsI (l : List (Int × Int)) (k t z : Int) : List C := colsOf l k.toNat t.toNat z.toNat
/-- Do columns that were read fit? -/
def fitsL (l : List (Int × Int)) (sc k t z : Int) (G : List ByteArray) : Bool := mayL l sc k t z && decide ((colsI l k t z).length = G.length) && fitL G
/-- What fitting answers. -/
def FitB (l : List (Int × Int)) (sc k t z : Int) (G : List ByteArray) (B : Nat) (w : World) (v : Value) (ok : Bool) : Prop :=
  ok = fitsL l sc k t z G ∧ (ok = true → ∃ k' t' z' : Nat, k = k' ∧ t = t' ∧ z = z' ∧ Blk l sc k' t' z' ∧ (colsOf l k' t' z').length = G.length ∧ fitL G = true ∧ OwnC B w v (colsOf l k' t' z')) ∧ ∃ a n c, v = .slice a n c

set_option maxHeartbeats 1000000 in
theorem fitting_any (l : List (Int × Int)) (sc : Int) (v : Value) (w : World) (h : Meas w v l sc) (k t z : Int) (hk : I64 k) (ht : I64 t) (hz : I64 z) (G : List ByteArray) (vG : Value) (hG : Txt w vG G) (hm : G.length ≤ 100000) :
    Calls Tryz.prog 24 #[v, .agg #[.int .i64 k, .int .i64 t], .int .i64 z, vG] w fun e w' => ∃ v' ok, e = .returned (.tuple #[v', .bool ok]) ∧ FitB l sc k t z G w.heap.size w' v' ok ∧ Below w.heap.size w w' := by
  have K1 := h
  obtain ⟨a, n, c, rfl, hg⟩ := id h
  replace K1 := Lib.hid (HeldP.start k t K1)
  have HC := Lib.hid (of_any l sc _ _ K1.out.h.m k t z hk ht hz)
  have HG := Lib.hid hG
  obtain ⟨aG, cG, rfl, hcG, hjG⟩ := hG
  generalize hn : G.length = nG at hcG hm HG
  have HN := Lib.hid hn
  clear h hg hk ht hz hjG hn
  go_enter Tryz.func24, Tryz.ntmps24
  go_wp2_with fail
  refine HC.out.mono ?_
  rintro e w1 ⟨v1, er, rfl, ho, b1⟩
  have HB := Lib.hid (next K1.out.h.below b1)
  clear b1
  rcases ho with ⟨hno, rfl, rfl⟩ | ⟨k', t', z', rfl, rfl, rfl, hB, rfl, hO⟩
  · have HF : Hid (fitsL l sc k t z G = false) := Lib.hid (by unfold fitsL; rw [hno]; rfl)
    clear hno
    go_wp2
    go_ret2
    exact ⟨_, _, rfl, ⟨HF.out.symm, fun h => (by cases h), _, _, _, rfl⟩, HB.out⟩
  · obtain ⟨g, c1, rfl, hc1, hg1, hA⟩ := OwnC.some hO hB.laid.pos
    have hlen := hB.laid.few
    have HO := Lib.hid hO
    have HBB := Lib.hid hB
    clear hA hO
    have HFF : Hid (fitsL l sc k' t' z' G = (decide ((colsOf l k' t' z').length = G.length) && fitL G)) := Lib.hid (by
      unfold fitsL
      rw [mayL_iff.2 ⟨k', t', z', rfl, rfl, rfl, hB⟩]
      rfl)
    clear hB
    obtain ⟨m, hmm⟩ : ∃ m, (colsOf l k' t' z').length = m := ⟨_, rfl⟩
    rw [hmm] at hlen hc1 HO HFF ⊢
    have HM := Lib.hid hmm
    clear hmm
    by_cases hl : m = nG
    · subst hl
      cases hfit : fitL G with
      | true =>
        have HCF := Lib.hid (fcontains_any G _ w1 (HG.out.below HB.out) (by rw [HN.out]; exact hm) true hfit)
        have HF : Hid (fitsL l sc k' t' z' G = true) := Lib.hid (by rw [HFF.out, HN.out, hfit]; simp)
        have HFT := Lib.hid hfit
        clear hfit
        go_wp2_with fail
        refine HCF.out.mono ?_
        rintro e w2 ⟨rfl, rfl⟩
        go_wp2
        go_ret2
        exact ⟨_, _, rfl, ⟨HF.out.symm, fun _ => ⟨k', t', z', rfl, rfl, rfl, HBB.out, by rw [HM.out, HN.out], HFT.out, HO.out.lower K1.out.h.below.size⟩, _, _, _, rfl⟩, HB.out⟩
      | false =>
        have HCF := Lib.hid (fcontains_any G _ w1 (HG.out.below HB.out) (by rw [HN.out]; exact hm) false hfit)
        have HF : Hid (fitsL l sc k' t' z' G = false) := Lib.hid (by rw [HFF.out, HN.out, hfit]; simp)
        clear hfit
        go_wp2_with fail
        refine HCF.out.mono ?_
        rintro e w2 ⟨rfl, rfl⟩
        go_wp2
        go_ret2
        exact ⟨_, _, rfl, ⟨HF.out.symm, fun h => (by cases h), _, _, _, rfl⟩, HB.out⟩
    · have HF : Hid (fitsL l sc k' t' z' G = false) := Lib.hid (by rw [HFF.out, HN.out]; simp [hl])
      have hl' : ((m : Int) == (nG : Int)) = false := by simp; omega
      have hl2 : ((m : Int) != (nG : Int)) = true := by unfold bne; rw [hl']; rfl
      clear hl
      go_wp2
      go_ret2
      exact ⟨_, _, rfl, ⟨HF.out.symm, fun h => (by cases h), _, _, _, rfl⟩, HB.out⟩

end Go.Proofs.YtlhnmcopioeboaaGreat

/- A range over a function whose iterator keeps its place in cells of its own: a law for the statement, and the contract that such an iterator is to meet. No program is named here. -/
namespace Go.Proofs.YtlhnmcopioeboaaGreat
set_option maxRecDepth 100000
open Go.RowKit

/-- From block B on, all that lay lies as it lay. -/
structure Since (B : Nat) (W W' : World) : Prop where
  size : W.heap.size ≤ W'.heap.size
  same : ∀ k, B ≤ k → k < W.heap.size → W'.heap[k]? = W.heap[k]?

theorem Since.refl (B : Nat) (W : World) : Since B W W := ⟨Nat.le_refl _, fun _ _ _ => rfl⟩
theorem Since.trans {B : Nat} {X Y Z : World} (h : Since B X Y) (g : Since B Y Z) : Since B X Z :=
  ⟨Nat.le_trans h.size g.size, fun k hk hx => (g.same k hk (Nat.lt_of_lt_of_le hx h.size)).trans (h.same k hk hx)⟩
theorem Since.mono {B C : Nat} {X Y : World} (h : Since B X Y) (hBC : B ≤ C) : Since C X Y := ⟨h.size, fun k hk hx => h.same k (Nat.le_trans hBC hk) hx⟩
theorem Since.alloc {B : Nat} {X Y : World} (h : Since B X Y) (o : Obj) : Since B X (Y.alloc o) :=
  h.trans ⟨by simp, fun k _ hk => Below.heap_alloc Y o k hk⟩
theorem Since.setCell {B : Nat} {X Y : World} (h : Since B X Y) {p : Addr} (hp : p.block < B) (v : Value) : Since B X (Y.setCell p v) :=
  h.trans ⟨by simp [World.setCell], fun k hk _ => Below.heap_setCell _ _ _ _ (by omega)⟩
theorem Since.drew {B : Nat} {X Y : World} (h : Since B X Y) : Since B X Y.drew := ⟨h.size, h.same⟩
theorem Since.putObj {B : Nat} {X Y : World} (h : Since B X Y) {l : Nat} (hl : l < B) (o : Obj) : Since B X (Y.putObj l o) :=
  h.trans ⟨by simp, fun k hk _ => World.putObj_heap_other (by omega)⟩
/-- What only made memory keeps all. -/
theorem Since.of_below {B : Nat} {X Y : World} (h : Below X.heap.size X Y) : Since B X Y := ⟨h.size, fun k _ hk => h.block k hk⟩
theorem Since.cell {B : Nat} {X Y : World} (h : Since B X Y) {p : Addr} (h1 : B ≤ p.block) (h2 : p.block < X.heap.size) : Y.cell? p = X.cell? p :=
  World.cell?_of_block (w := X) (h.same p.block h1 h2)
theorem Since.frozen {B : Nat} {X Y : World} (h : Since B X Y) {p : Addr} (h1 : B ≤ p.block) (h2 : p.block < X.heap.size) : Y.frozen? p = X.frozen? p :=
  World.frozen?_of_block (w := X) (h.same p.block h1 h2)
theorem below_putObj {B : Nat} {X Y : World} (h : Below B X Y) {l : Nat} (hl : B ≤ l) (o : Obj) : Below B X (Y.putObj l o) :=
  h.trans ⟨rfl, rfl, rfl, by simp, fun k hk => World.putObj_heap_other (by omega)⟩

/-- What is said of a world by what lies below block B. -/
def Stands (B : Nat) (I : Nat → World → Prop) : Prop := ∀ k X Y, I k X → Below B X Y → I k Y

theorem Stands.mono {B C : Nat} {I : Nat → World → Prop} (h : Stands B I) (hBC : B ≤ C) : Stands C I := fun k X Y hk hb => h k X Y hk (hb.mono hBC)
theorem Stands.putObj {B : Nat} {I : Nat → World → Prop} (h : Stands B I) {k l : Nat} {X : World} (hk : I k X) (hl : B ≤ l) (o : Obj) : I k (X.putObj l o) :=
  h k X _ hk (below_putObj (Below.refl _ _) hl o)

/-- The iterator hands out just xs, one by one, however the rounds go on; what the rounds have made stands through its own steps, and it leans on this alone, that a round leaves the blocks that it made itself. -/
def Hands {α : Type} (F : Fence) (n : Nat) (P : Program) (g : Nat) (lb : Array Value) (enc : α → Value) (xs : List α) (w : World) : Prop :=
  ∀ (l : Nat) (J Jx : Nat → World → Prop) (W : World), Below w.heap.size w W → Stands W.heap.size J → Stands W.heap.size Jx →
    (∀ k x W1, xs[k]? = some x → J k W1 → YieldAt F (n - 1) P l #[enc x] W1 fun e W' =>
      (e = .returned (.bool true) ∧ J (k + 1) W' ∧ Since W.heap.size W1 W') ∨ (e = .returned (.bool false) ∧ Jx (k + 1) W')) →
    J 0 W →
    CallsIn F n P g (#[.func (.yield l) #[] #[]] ++ lb) W fun e W' => (∃ v, e = .returned v) ∧ (J xs.length W' ∨ ∃ k, k ≤ xs.length ∧ Jx k W')

/-- How a round's body may be left. -/
def leftBy (B : Nat) (I : Nat → World → Prop) (Ix : Code → Nat → World → Prop) (k : Nat) (W : World) : Exit → Act → World → Prop
  | .normal, _, W' => Since B W W' ∧ I k W'
  | .ret, _, W' => Since B W W' ∧ Ix .ret k W'
  | .exit id, _, W' => Since B W W' ∧ Ix (.exit id) k W'
  | .goto t, _, W' => Since B W W' ∧ Ix (.goto t) k W'
  | .panic _, _, _ => False
  | .outgrown, _, _ => False

section
variable {F : Fence} {n : Nat} {P : Program}

/-- The statement: its own body once, from I to 'leftBy'; what follows where all have come, and where a round has left. -/
theorem wpIn_range_hands {α : Type} {g : Operand} {ps : Array Tmp} {assign body : Code} {Q : Exit → Act → World → Prop} {a : Act} {w : World}
    (hro : F.round = none) (h1 : 1 ≤ n) {gf : Nat} {lb : Array Value} (hg : a.eval g = .func (.func gf) #[] lb) (hFg : F.fn gf) (eg : ∀ args w, (callFunc gf args).run P w = .ok (.enter gf args) w)
    {enc : α → Value} {xs : List α} {w0 : World} (hseq : Hands F (n - 1) P gf lb enc xs w0) (hb0 : Below w0.heap.size w0 w) (hps : ps.size = 1)
    (I : Nat → World → Prop) (Ix : Code → Nat → World → Prop) (hI : Stands w.heap.size I) (hIx : ∀ c, Stands w.heap.size (Ix c)) (h0 : I 0 w) (a₁ : α → Act)
    (hassign : ∀ (l : Nat) (x : α) (W : World) (K : Act → World → Prop), K (a₁ x) W →
      assign.wpIn (F.inRound l) (n - 1 - 1) P (Exit.then K (fun _ _ _ => False)) { tmps := (ps.zip #[enc x]).foldl (fun t (p, v) => t.setIfInBounds p v) a.tmps, defers := [] } W)
    (hbody : ∀ (l k : Nat) (x : α) (W : World), xs[k]? = some x → I k W → body.wpIn (F.inRound l) (n - 1 - 1) P (leftBy w.heap.size I Ix (k + 1) W) (a₁ x) W)
    (hdone : ∀ (D : Nat) (W : World), w.heap.size ≤ D → I xs.length W → W.heap[D]? = some (.deferred (some [])) → Q .normal { a with defers := { target := .collected D, args := #[] } :: a.defers } W)
    (hstop : ∀ (D : Nat) (c : Code) (k : Nat) (W : World), w.heap.size ≤ D → k ≤ xs.length → Ix c k W → W.heap[D]? = some (.deferred (some [])) → c.wpIn F n P Q { a with defers := { target := .collected D, args := #[] } :: a.defers } W) :
    (Code.rangeFunc g ps assign body).wpIn F n P Q a w := by
  refine wpIn_rangeFunc fun fn hfn => ?_
  rw [hro]
  obtain ⟨R, hR⟩ : ∃ R : LoopState → Option Code → Loop, R = fun st pe => { state := st, pending := pe, fn, tmps := a.tmps, params := ps, assign, body, defers := w.heap.size } := ⟨_, rfl⟩
  obtain ⟨V, hV⟩ : ∃ V, (w.alloc (.deferred (some []))).alloc (.loop (R .ready none)) = V := ⟨_, rfl⟩
  have hVs : V.heap.size = w.heap.size + 2 := by rw [← hV]; simp
  have hVl : V.heap[w.heap.size + 1]? = some (.loop (R .ready none)) := by
    have := World.alloc_heap_new (w.alloc (.deferred (some []))) (.loop (R .ready none))
    rw [World.size_alloc] at this
    rw [← hV]; exact this
  have hVd : V.heap[w.heap.size]? = some (.deferred (some [])) := by
    rw [← hV]; exact (Below.heap_alloc _ _ _ (by simp)).trans (World.alloc_heap_new w _)
  have hVb : Below w.heap.size w V := by rw [← hV]; exact ((Below.refl _ w).alloc (Nat.le_refl _) _).alloc (by simp) _
  refine ⟨w.heap.size + 1, [{ target := .collected w.heap.size, args := #[] }], V, { target := .fn (.func gf) lb, args := #[.func (.yield (w.heap.size + 1)) #[] #[]] }, V, gf,
    #[.func (.yield (w.heap.size + 1)) #[] #[]] ++ lb, V, ?_, ?_, ?_, ?_, fun _ => h1, ?_⟩
  · rw [← hV, hR]; exact run_enterLoop_outer _ _ _ _ _
  · simp only [resolve, hg]
    simp [go_sem]
  · intro f' hf'; simp [Target.leads] at hf'; subst hf'; exact hFg
  · simp [invoke, go_sem, eg]
  · refine (hseq (w.heap.size + 1)
      (fun k W => I k W ∧ W.heap[w.heap.size + 1]? = some (.loop (R .ready none)) ∧ W.heap[w.heap.size]? = some (.deferred (some [])))
      (fun k W => ∃ c, Ix c k W ∧ W.heap[w.heap.size + 1]? = some (.loop (R .done (some c))) ∧ W.heap[w.heap.size]? = some (.deferred (some [])))
      V (hb0.trans (hVb.mono hb0.size)) ?_ ?_ ?_ ⟨hI 0 w V h0 hVb, hVl, hVd⟩).mono ?_
    · rintro k X Y ⟨i, r, d⟩ hb
      exact ⟨hI k X Y i (hb.mono (by omega)), (hb.block _ (by omega)).trans r, (hb.block _ (by omega)).trans d⟩
    · rintro k X Y ⟨c, i, r, d⟩ hb
      exact ⟨c, hIx c k X Y i (hb.mono (by omega)), (hb.block _ (by omega)).trans r, (hb.block _ (by omega)).trans d⟩
    · -- one round
      rintro k x W hx ⟨hi, hr, hd⟩
      have hlt : w.heap.size + 1 < W.heap.size := (Array.getElem?_eq_some_iff.1 hr).1
      have hy := run_yield (P := P) (args := #[enc x]) hr (by rw [hR]; simp [hps])
      rw [hR] at hy
      obtain ⟨U, hU⟩ : ∃ U, W.putObj (w.heap.size + 1) (.loop { R .ready none with state := .busy }) = U := ⟨_, rfl⟩
      have hUr : U.heap[w.heap.size + 1]? = some (.loop { R .ready none with state := .busy }) := by rw [← hU]; exact World.putObj_heap_same hlt
      have hUd : U.heap[w.heap.size]? = some (.deferred (some [])) := by rw [← hU]; exact (World.putObj_heap_other (by omega)).trans hd
      have hUs : U.heap.size = W.heap.size := by rw [← hU]; simp
      have hUW : Since V.heap.size W U := by rw [← hU]; exact (Since.refl _ _).putObj (by omega) _
      refine ⟨fn, _, assign, body, hy, roundIn_of_wpIn hfn (hassign _ x W _ ⟨U, by rw [← hU]; exact run_beginRound hr (by rw [hR]), ?_⟩)⟩
      refine wpIn_mono (hbody _ k x U hx (by rw [← hU]; exact hI.putObj hi (by omega) _)) ?_
      have fin : ∀ (jump : Option Code) (X : World), Since w.heap.size U X → ∃ Y, (Instr.endRound (w.heap.size + 1) jump).run P X = .ok (.bool jump.isNone) Y ∧
          Y = X.putObj (w.heap.size + 1) (.loop (R (if jump.isNone then .ready else .done) jump)) ∧ Y.heap[w.heap.size + 1]? = some (.loop (R (if jump.isNone then .ready else .done) jump)) ∧ Y.heap[w.heap.size]? = some (.deferred (some [])) ∧ Since V.heap.size W Y := by
        intro jump X hs
        have hXr := (hs.same (w.heap.size + 1) (by omega) (by omega)).trans hUr
        have hXd := (hs.same w.heap.size (by omega) (by omega)).trans hUd
        have he := run_endRound (P := P) jump hXr
        refine ⟨_, he, by rw [hR], ?_, (World.putObj_heap_other (by omega)).trans hXd, ?_⟩
        · rw [World.putObj_heap_same (Array.getElem?_eq_some_iff.1 hXr).1, hR]
        · exact (hUW.trans (hs.mono (by omega))).putObj (by omega) _
      rintro e a3 X hp
      cases e with
      | normal =>
        obtain ⟨hs, i⟩ := hp
        obtain ⟨Y, he, hY, h2, h3, h4⟩ := fin none X hs
        exact ⟨_, Y, he, .inl ⟨rfl, ⟨by rw [hY]; exact hI.putObj i (by omega) _, h2, h3⟩, h4⟩⟩
      | ret =>
        obtain ⟨hs, i⟩ := hp
        obtain ⟨Y, he, hY, h2, h3, h4⟩ := fin (some .ret) X hs
        exact ⟨_, Y, he, .inr ⟨rfl, .ret, by rw [hY]; exact (hIx _).putObj i (by omega) _, h2, h3⟩⟩
      | exit id =>
        obtain ⟨hs, i⟩ := hp
        obtain ⟨Y, he, hY, h2, h3, h4⟩ := fin (some (.exit id)) X hs
        exact ⟨_, Y, he, .inr ⟨rfl, .exit id, by rw [hY]; exact (hIx _).putObj i (by omega) _, h2, h3⟩⟩
      | goto t =>
        obtain ⟨hs, i⟩ := hp
        obtain ⟨Y, he, hY, h2, h3, h4⟩ := fin (some (.goto t)) X hs
        exact ⟨_, Y, he, .inr ⟨rfl, .goto t, by rw [hY]; exact (hIx _).putObj i (by omega) _, h2, h3⟩⟩
      | panic ch => exact hp.elim
      | outgrown => exact hp.elim
    · -- behind the iterator
      rintro e X ⟨⟨v, rfl⟩, (⟨i, hr, hd⟩ | ⟨k, hk, c, i, hr, hd⟩)⟩
      · refine ⟨none, _, by have := run_endLoop (P := P) hr (by rw [hR]; simp); rw [hR] at this; exact this, ?_⟩
        exact hdone _ _ (Nat.le_refl _) (hI.putObj i (by omega) _) ((World.putObj_heap_other (by omega)).trans hd)
      · refine ⟨some c, _, by have := run_endLoop (P := P) hr (by rw [hR]; simp); rw [hR] at this; exact this, ?_⟩
        exact hstop _ c k _ (Nat.le_refl _) hk ((hIx c).putObj i (by omega) _) ((World.putObj_heap_other (by omega)).trans hd)
end
end Go.Proofs.YtlhnmcopioeboaaGreat

/- The law for a range over a function once more: what is handed out is several values. -/
namespace Go.Proofs.YtlhnmcopioeboaaGreat
set_option maxRecDepth 100000
open Go.RowKit

/-- The iterator hands out just xs, one by one; it leans on what lay from block B on in w, which the rounds leave. -/
def HandsS {α : Type} (F : Fence) (n : Nat) (P : Program) (g : Nat) (lb : Array Value) (enc : α → Array Value) (xs : List α) (B : Nat) (w : World) : Prop :=
  ∀ (l : Nat) (J Jx : Nat → World → Prop) (W : World), Since B w W → Stands W.heap.size J → Stands W.heap.size Jx → (∀ k X, J k X → Since B w X) →
    (∀ k x W1, xs[k]? = some x → J k W1 → YieldAt F (n - 1) P l (enc x) W1 fun e W' =>
      (e = .returned (.bool true) ∧ J (k + 1) W' ∧ Since W.heap.size W1 W') ∨ (e = .returned (.bool false) ∧ Jx (k + 1) W')) →
    J 0 W →
    CallsIn F n P g (#[.func (.yield l) #[] #[]] ++ lb) W fun e W' => (∃ v, e = .returned v) ∧ (J xs.length W' ∨ ∃ k, k ≤ xs.length ∧ Jx k W')

section
variable {F : Fence} {n : Nat} {P : Program}

/-- The statement: its own body once, from I to 'leftBy'; what follows where all have come, and where a round has left. -/
theorem wpIn_range_handsS {α : Type} {g : Operand} {ps : Array Tmp} {assign body : Code} {Q : Exit → Act → World → Prop} {a : Act} {w : World}
    (hro : F.round = none) (h1 : 1 ≤ n) {gf : Nat} {lb : Array Value} (hg : a.eval g = .func (.func gf) #[] lb) (hFg : F.fn gf) (eg : ∀ args w, (callFunc gf args).run P w = .ok (.enter gf args) w)
    {enc : α → Array Value} {xs : List α} {w0 : World} {B : Nat} (hseq : HandsS F (n - 1) P gf lb enc xs B w0) (hb0 : Since B w0 w) (hps : ∀ x, (enc x).size = ps.size)
    (I : Nat → World → Prop) (Ix : Code → Nat → World → Prop) (hI : Stands w.heap.size I) (hIx : ∀ c, Stands w.heap.size (Ix c)) (hIK : ∀ k X, I k X → Since B w0 X) (h0 : I 0 w) (a₁ : α → Act)
    (hassign : ∀ (l : Nat) (x : α) (W : World) (K : Act → World → Prop), K (a₁ x) W →
      assign.wpIn (F.inRound l) (n - 1 - 1) P (Exit.then K (fun _ _ _ => False)) { tmps := (ps.zip (enc x)).foldl (fun t (p, v) => t.setIfInBounds p v) a.tmps, defers := [] } W)
    (hbody : ∀ (l k : Nat) (x : α) (W : World), xs[k]? = some x → I k W → body.wpIn (F.inRound l) (n - 1 - 1) P (leftBy w.heap.size I Ix (k + 1) W) (a₁ x) W)
    (hdone : ∀ (D : Nat) (W : World), w.heap.size ≤ D → I xs.length W → W.heap[D]? = some (.deferred (some [])) → Q .normal { a with defers := { target := .collected D, args := #[] } :: a.defers } W)
    (hstop : ∀ (D : Nat) (c : Code) (k : Nat) (W : World), w.heap.size ≤ D → k ≤ xs.length → Ix c k W → W.heap[D]? = some (.deferred (some [])) → c.wpIn F n P Q { a with defers := { target := .collected D, args := #[] } :: a.defers } W) :
    (Code.rangeFunc g ps assign body).wpIn F n P Q a w := by
  refine wpIn_rangeFunc fun fn hfn => ?_
  rw [hro]
  obtain ⟨R, hR⟩ : ∃ R : LoopState → Option Code → Loop, R = fun st pe => { state := st, pending := pe, fn, tmps := a.tmps, params := ps, assign, body, defers := w.heap.size } := ⟨_, rfl⟩
  obtain ⟨V, hV⟩ : ∃ V, (w.alloc (.deferred (some []))).alloc (.loop (R .ready none)) = V := ⟨_, rfl⟩
  have hVs : V.heap.size = w.heap.size + 2 := by rw [← hV]; simp
  have hVl : V.heap[w.heap.size + 1]? = some (.loop (R .ready none)) := by
    have := World.alloc_heap_new (w.alloc (.deferred (some []))) (.loop (R .ready none))
    rw [World.size_alloc] at this
    rw [← hV]; exact this
  have hVd : V.heap[w.heap.size]? = some (.deferred (some [])) := by
    rw [← hV]; exact (Below.heap_alloc _ _ _ (by simp)).trans (World.alloc_heap_new w _)
  have hVb : Below w.heap.size w V := by rw [← hV]; exact ((Below.refl _ w).alloc (Nat.le_refl _) _).alloc (by simp) _
  refine ⟨w.heap.size + 1, [{ target := .collected w.heap.size, args := #[] }], V, { target := .fn (.func gf) lb, args := #[.func (.yield (w.heap.size + 1)) #[] #[]] }, V, gf,
    #[.func (.yield (w.heap.size + 1)) #[] #[]] ++ lb, V, ?_, ?_, ?_, ?_, fun _ => h1, ?_⟩
  · rw [← hV, hR]; exact run_enterLoop_outer _ _ _ _ _
  · simp only [resolve, hg]
    simp [go_sem]
  · intro f' hf'; simp [Target.leads] at hf'; subst hf'; exact hFg
  · simp [invoke, go_sem, eg]
  · refine (hseq (w.heap.size + 1)
      (fun k W => I k W ∧ W.heap[w.heap.size + 1]? = some (.loop (R .ready none)) ∧ W.heap[w.heap.size]? = some (.deferred (some [])))
      (fun k W => ∃ c, Ix c k W ∧ W.heap[w.heap.size + 1]? = some (.loop (R .done (some c))) ∧ W.heap[w.heap.size]? = some (.deferred (some [])))
      V (hb0.trans (Since.of_below hVb)) ?_ ?_ (fun k X hX => hIK k X hX.1) ?_ ⟨hI 0 w V h0 hVb, hVl, hVd⟩).mono ?_
    · rintro k X Y ⟨i, r, d⟩ hb
      exact ⟨hI k X Y i (hb.mono (by omega)), (hb.block _ (by omega)).trans r, (hb.block _ (by omega)).trans d⟩
    · rintro k X Y ⟨c, i, r, d⟩ hb
      exact ⟨c, hIx c k X Y i (hb.mono (by omega)), (hb.block _ (by omega)).trans r, (hb.block _ (by omega)).trans d⟩
    · -- one round
      rintro k x W hx ⟨hi, hr, hd⟩
      have hlt : w.heap.size + 1 < W.heap.size := (Array.getElem?_eq_some_iff.1 hr).1
      have hy := run_yield (P := P) (args := (enc x)) hr (by rw [hR]; simp [hps x])
      rw [hR] at hy
      obtain ⟨U, hU⟩ : ∃ U, W.putObj (w.heap.size + 1) (.loop { R .ready none with state := .busy }) = U := ⟨_, rfl⟩
      have hUr : U.heap[w.heap.size + 1]? = some (.loop { R .ready none with state := .busy }) := by rw [← hU]; exact World.putObj_heap_same hlt
      have hUd : U.heap[w.heap.size]? = some (.deferred (some [])) := by rw [← hU]; exact (World.putObj_heap_other (by omega)).trans hd
      have hUs : U.heap.size = W.heap.size := by rw [← hU]; simp
      have hUW : Since V.heap.size W U := by rw [← hU]; exact (Since.refl _ _).putObj (by omega) _
      refine ⟨fn, _, assign, body, hy, roundIn_of_wpIn hfn (hassign _ x W _ ⟨U, by rw [← hU]; exact run_beginRound hr (by rw [hR]), ?_⟩)⟩
      refine wpIn_mono (hbody _ k x U hx (by rw [← hU]; exact hI.putObj hi (by omega) _)) ?_
      have fin : ∀ (jump : Option Code) (X : World), Since w.heap.size U X → ∃ Y, (Instr.endRound (w.heap.size + 1) jump).run P X = .ok (.bool jump.isNone) Y ∧
          Y = X.putObj (w.heap.size + 1) (.loop (R (if jump.isNone then .ready else .done) jump)) ∧ Y.heap[w.heap.size + 1]? = some (.loop (R (if jump.isNone then .ready else .done) jump)) ∧ Y.heap[w.heap.size]? = some (.deferred (some [])) ∧ Since V.heap.size W Y := by
        intro jump X hs
        have hXr := (hs.same (w.heap.size + 1) (by omega) (by omega)).trans hUr
        have hXd := (hs.same w.heap.size (by omega) (by omega)).trans hUd
        have he := run_endRound (P := P) jump hXr
        refine ⟨_, he, by rw [hR], ?_, (World.putObj_heap_other (by omega)).trans hXd, ?_⟩
        · rw [World.putObj_heap_same (Array.getElem?_eq_some_iff.1 hXr).1, hR]
        · exact (hUW.trans (hs.mono (by omega))).putObj (by omega) _
      rintro e a3 X hp
      cases e with
      | normal =>
        obtain ⟨hs, i⟩ := hp
        obtain ⟨Y, he, hY, h2, h3, h4⟩ := fin none X hs
        exact ⟨_, Y, he, .inl ⟨rfl, ⟨by rw [hY]; exact hI.putObj i (by omega) _, h2, h3⟩, h4⟩⟩
      | ret =>
        obtain ⟨hs, i⟩ := hp
        obtain ⟨Y, he, hY, h2, h3, h4⟩ := fin (some .ret) X hs
        exact ⟨_, Y, he, .inr ⟨rfl, .ret, by rw [hY]; exact (hIx _).putObj i (by omega) _, h2, h3⟩⟩
      | exit id =>
        obtain ⟨hs, i⟩ := hp
        obtain ⟨Y, he, hY, h2, h3, h4⟩ := fin (some (.exit id)) X hs
        exact ⟨_, Y, he, .inr ⟨rfl, .exit id, by rw [hY]; exact (hIx _).putObj i (by omega) _, h2, h3⟩⟩
      | goto t =>
        obtain ⟨hs, i⟩ := hp
        obtain ⟨Y, he, hY, h2, h3, h4⟩ := fin (some (.goto t)) X hs
        exact ⟨_, Y, he, .inr ⟨rfl, .goto t, by rw [hY]; exact (hIx _).putObj i (by omega) _, h2, h3⟩⟩
      | panic ch => exact hp.elim
      | outgrown => exact hp.elim
    · -- behind the iterator
      rintro e X ⟨⟨v, rfl⟩, (⟨i, hr, hd⟩ | ⟨k, hk, c, i, hr, hd⟩)⟩
      · refine ⟨none, _, by have := run_endLoop (P := P) hr (by rw [hR]; simp); rw [hR] at this; exact this, ?_⟩
        exact hdone _ _ (Nat.le_refl _) (hI.putObj i (by omega) _) ((World.putObj_heap_other (by omega)).trans hd)
      · refine ⟨some c, _, by have := run_endLoop (P := P) hr (by rw [hR]; simp); rw [hR] at this; exact this, ?_⟩
        exact hstop _ c k _ (Nat.le_refl _) hk ((hIx c).putObj i (by omega) _) ((World.putObj_heap_other (by omega)).trans hd)
end
end Go.Proofs.YtlhnmcopioeboaaGreat

/- Numbers sorted, each once. -/
namespace Go.Proofs.YtlhnmcopioeboaaGreat
set_option maxRecDepth 100000

theorem lt_ext : ∀ (l m : List Int), l.Pairwise (· < ·) → m.Pairwise (· < ·) → (∀ x, x ∈ l ↔ x ∈ m) → l = m
  | [], [], _, _, _ => rfl
  | [], y :: m, _, _, h => by have := (h y).2 List.mem_cons_self; cases this
  | x :: l, [], _, _, h => by have := (h x).1 List.mem_cons_self; cases this
  | x :: l, y :: m, hl, hm, h => by
    obtain ⟨h1, h2⟩ := List.pairwise_cons.1 hl
    obtain ⟨h3, h4⟩ := List.pairwise_cons.1 hm
    have e : x = y := by
      rcases List.mem_cons.1 ((h x).1 List.mem_cons_self) with e | e
      · exact e
      · rcases List.mem_cons.1 ((h y).2 List.mem_cons_self) with e' | e'
        · exact e'.symm
        · have := h3 x e; have := h1 y e'; omega
    subst e
    rw [lt_ext l m h2 h4 fun z => ⟨fun hz => ?_, fun hz => ?_⟩]
    · rcases List.mem_cons.1 ((h z).1 (List.mem_cons_of_mem _ hz)) with e | e
      · subst e; have := h1 z hz; omega
      · exact e
    · rcases List.mem_cons.1 ((h z).2 (List.mem_cons_of_mem _ hz)) with e | e
      · subst e; have := h3 z hz; omega
      · exact e
/-- Of sorted numbers each once: rising, and the same ones. -/
theorem compact_up (d : Array Int) (hs : ∀ i j, i ≤ j → j < d.size → d[i]! ≤ d[j]!) (m : Nat) (hm : m ≤ d.size) :
    (Lib.compactUpTo d m).Pairwise (· < ·) ∧ ∀ x, x ∈ Lib.compactUpTo d m ↔ ∃ j, j < m ∧ d[j]! = x := by
  induction m with
  | zero => exact ⟨by simp [Lib.compactUpTo], fun x => ⟨fun h => by simp [Lib.compactUpTo] at h, fun ⟨j, h, _⟩ => absurd h (Nat.not_lt_zero _)⟩⟩
  | succ m ih =>
    obtain ⟨h1, h2⟩ := ih (by omega)
    rw [Lib.compactUpTo_succ]
    by_cases hk : Lib.keeps d m = true
    · rw [if_pos hk]
      have hlt : ∀ x ∈ Lib.compactUpTo d m, x < d[m]! := fun x hx => by
        obtain ⟨j, hj, e⟩ := (h2 x).1 hx
        have hm0 : ¬ m = 0 := by omega
        have hne : d[m]! ≠ d[m - 1]! := by simpa [Lib.keeps, hm0] using hk
        have a := hs (m - 1) m (by omega) (by omega)
        have b := hs j (m - 1) (by omega) (by omega)
        omega
      refine ⟨List.pairwise_append.2 ⟨h1, by simp, fun a ha b hb => ?_⟩, fun x => ?_⟩
      · rw [List.mem_singleton.1 hb]; exact hlt a ha
      · rw [List.mem_append, h2 x, List.mem_singleton]
        constructor
        · rintro (⟨j, hj, e⟩ | e)
          · exact ⟨j, by omega, e⟩
          · exact ⟨m, by omega, e.symm⟩
        · rintro ⟨j, hj, e⟩
          by_cases ej : j = m
          · subst ej; exact .inr e.symm
          · exact .inl ⟨j, by omega, e⟩
    · rw [if_neg hk, List.append_nil]
      refine ⟨h1, fun x => ?_⟩
      rw [h2 x]
      have hk' : ¬ (m = 0 ∨ d[m]! ≠ d[m - 1]!) := by simpa [Lib.keeps] using hk
      have hm0 : m ≠ 0 := fun e => hk' (.inl e)
      have he : d[m]! = d[m - 1]! := Decidable.byContradiction fun e => hk' (.inr e)
      constructor
      · rintro ⟨j, hj, e⟩; exact ⟨j, by omega, e⟩
      · rintro ⟨j, hj, e⟩
        by_cases ej : j = m
        · subst ej; exact ⟨j - 1, by omega, by rw [← he]; exact e⟩
        · exact ⟨j, by omega, e⟩
def devsS (zs : List Int) : List Int := Lib.compact (zs.mergeSort fun x y => decide (x ≤ y))
theorem devsS_spec (zs : List Int) : (devsS zs).Pairwise (· < ·) ∧ ∀ x, x ∈ devsS zs ↔ x ∈ zs := by
  have h1 := List.pairwise_mergeSort (le := fun x y : Int => decide (x ≤ y)) (fun a b c h1 h2 => by simp at *; omega) (fun a b => by simp; omega) zs
  obtain ⟨ys, hy⟩ : ∃ ys, zs.mergeSort (fun x y => decide (x ≤ y)) = ys := ⟨_, rfl⟩
  have hmem : ∀ x, x ∈ ys ↔ x ∈ zs := fun x => by rw [← hy, List.mem_mergeSort]
  unfold devsS
  rw [hy]
  rw [hy] at h1
  have hget : ∀ j, j < ys.length → ys.toArray[j]! = ys[j]! := fun j _ => by simp
  have hs : ∀ i j, i ≤ j → j < ys.toArray.size → ys.toArray[i]! ≤ ys.toArray[j]! := fun i j hij hj => by
    have hj' : j < ys.length := by simpa using hj
    rw [hget i (by omega), hget j hj', getElem!_pos ys i (by omega), getElem!_pos ys j hj']
    rcases Nat.lt_or_ge i j with h | h
    · have := List.pairwise_iff_getElem.1 h1 i j (by omega) hj' h
      simpa using this
    · obtain rfl : i = j := by omega
      exact Int.le_refl _
  obtain ⟨h2, h3⟩ := compact_up ys.toArray hs ys.length (by simp)
  refine ⟨h2, fun x => ?_⟩
  rw [← hmem x]
  refine (h3 x).trans ⟨?_, ?_⟩
  · rintro ⟨j, hj, e⟩
    rw [hget j hj, getElem!_pos ys j hj] at e
    rw [← e]; exact List.getElem_mem hj
  · intro h
    obtain ⟨j, hj, e⟩ := List.getElem_of_mem h
    exact ⟨j, hj, by rw [hget j hj, getElem!_pos ys j hj]; exact e⟩
theorem devsS_nodup {zs : List Int} (h : zs.Nodup) : (devsS zs).length = zs.length := by
  obtain ⟨h1, h2⟩ := devsS_spec zs
  have h3 : (devsS zs).Nodup := h1.imp fun h => by omega
  exact ((List.perm_ext_iff_of_nodup h3 h).2 h2).length_eq
theorem devsS_run {zs : List Int} {f : Int} {u : Nat} (h : ∀ x, x ∈ zs ↔ f ≤ x ∧ x < f + u) : (devsS zs).length = u := by
  obtain ⟨h1, h2⟩ := devsS_spec zs
  have e : devsS zs = (List.range u).map fun i : Nat => f + (i : Int) := by
    refine lt_ext _ _ h1 ?_ fun x => ?_
    · rw [List.pairwise_map]
      exact List.pairwise_lt_range.imp fun h => by omega
    · rw [h2 x, h x, List.mem_map]
      constructor
      · rintro ⟨ha, hb⟩; exact ⟨(x - f).toNat, List.mem_range.2 (by omega), by omega⟩
      · rintro ⟨i, hi, rfl⟩; have := List.mem_range.1 hi; omega
  rw [e]; simp
theorem devsS_pos {zs : List Int} (h : 0 < zs.length) : 0 < (devsS zs).length := by
  obtain ⟨_, h2⟩ := devsS_spec zs
  exact List.length_pos_of_mem ((h2 zs[0]).2 (List.getElem_mem h))
theorem devsS_le (zs : List Int) : (devsS zs).length ≤ zs.length := by
  have h : ∀ (d : Array Int) (m : Nat), (Lib.compactUpTo d m).length ≤ m := fun d m => by
    induction m with
    | zero => simp [Lib.compactUpTo]
    | succ m ih => rw [Lib.compactUpTo_succ, List.length_append]; split <;> simp <;> omega
  have := h (zs.mergeSort fun x y => decide (x ≤ y)).toArray (zs.mergeSort fun x y => decide (x ≤ y)).length
  unfold devsS Lib.compact
  rw [List.length_mergeSort] at this ⊢
  exact this
end Go.Proofs.YtlhnmcopioeboaaGreat

/- cols.Devs: the devices of columns, rising, each once. -/
namespace Go.Proofs.YtlhnmcopioeboaaGreat
set_option maxRecDepth 100000
open Go.RowKit

theorem own_sort {w : World} {B g n cap : Nat} {zs : List Int} (hn : zs.length = n) (h : OwnI B w (.slice (some ⟨g, 0, none⟩) n cap) zs) (hl : n ≤ 4294967296) (hBw : B ≤ w.heap.size) :
    Calls Tryz.prog 70 #[.slice (some ⟨g, 0, none⟩) n cap] w fun e w' => e = .returned (.tuple #[]) ∧ OwnI B w' (.slice (some ⟨g, 0, none⟩) n cap) (zs.mergeSort fun x y => decide (x ≤ y)) ∧ Below B w w' := by
  subst hn
  rcases h.2 with ⟨h0, _⟩ | ⟨g', cap', cur, hv, hB, hb, h1, h2, h3, h4⟩
  · cases h0
  cases hv
  refine (Tryz.slices_Sort_int g 0 cap zs w (holds_of_blockI hb (by simpa using h4)) (Array.getElem?_eq_some_iff.1 hb).1 (by omega)).mono ?_
  rintro e w' ⟨rfl, n, os, rfl⟩
  have hml : (zs.mergeSort fun x y => decide (x ≤ y)).length = zs.length := by simp
  refine ⟨rfl, ?_, ?_⟩
  · have := ownsRow_sortedI (n := n) (os := os) (base := B) (ss := zs) (ts := zs.mergeSort fun x y => decide (x ≤ y)) hml hB hb h1 h2 h3
    unfold OwnI
    rw [hml]
    exact this
  · exact (Below.refl _ w).grown (grownBy_sortedI _) hBw (fun j hj => by cases hj; exact hB)
theorem own_compact {w : World} {B g n cap : Nat} {zs : List Int} (hn : zs.length = n) (h : OwnI B w (.slice (some ⟨g, 0, none⟩) n cap) zs) (hl : n ≤ 4294967296) (hBw : B ≤ w.heap.size) (D : List Int) (hD : Lib.compact zs = D) (hDn : D.length ≤ n) :
    Calls Tryz.prog 71 #[.slice (some ⟨g, 0, none⟩) n cap] w fun e w' => e = .returned (.slice (some ⟨g, 0, none⟩) D.length cap) ∧ IntsV w' (.slice (some ⟨g, 0, none⟩) D.length cap) D ∧ Below B w w' := by
  subst hn
  rcases h.2 with ⟨h0, _⟩ | ⟨g', cap', cur, hv, hB, hb, h1, h2, h3, h4⟩
  · cases h0
  cases hv
  have hH := holds_of_blockI hb (by simpa using h4)
  refine (Tryz.slices_Compact_int g 0 cap zs w hH (by omega) h1).mono ?_
  rintro e w' ⟨rfl, q, rfl⟩
  rw [hD]
  have hg := grownBy_sortedI (w := w) (g := g) (n := q) (os := #[]) (D ++ List.replicate (zs.length - D.length) 0).toArray
  rw [Sort.grow_empty] at hg
  refine ⟨rfl, ⟨_, _, _, rfl, rfl, by omega, fun j hj => ⟨g, rfl, ?_, ?_⟩⟩, (Below.refl _ w).grown hg hBw (fun j hj => by cases hj; exact hB)⟩
  · rw [Sort.size_putRow]; exact (Array.getElem?_eq_some_iff.1 hb).1
  · have := Sort.cell?_putRow (Value.int .i64) (Sort.ahead w q) g 0 zs.toArray (D ++ List.replicate (zs.length - D.length) 0).toArray (Sort.holds_ahead _ _ _ _ _ _ hH) (by simp; omega) j (by simp; omega)
    rw [Nat.zero_add] at this
    rw [this]
    congr 2
    rw [getElem!_pos _ j (by simp; omega)]
    simp [List.getElem_append_left hj]

set_option maxHeartbeats 1000000 in
theorem devs_cols (w : World) (v : Value) (L : List C) (hV : ColsV w v L) (h0 : 0 < L.length) (hl : L.length ≤ 100000) (D : List Int) (hD : devsS (L.map C.dev) = D) :
    Calls Tryz.prog 54 #[v] w fun e w' => ∃ v', e = .returned v' ∧ IntsV w' v' D ∧ Below w.heap.size w w' := by
  obtain ⟨g, n, c, rfl, hn, hlt, hC⟩ := hV.some h0
  rw [hn] at h0 hl
  have HN := Lib.hid hn
  have HC := Lib.hid hC
  have HD := Lib.hid hD
  clear hV hn hC hD
  go_enter Tryz.func54, Tryz.ntmps54
  go_wp2_with fail
  go_loopw [3, 8] (fun t3 i8 wr => ∃ j : Nat, j ≤ n ∧ i8 = .int .i64 (j : Int) ∧ Hid (OwnI w.heap.size wr t3 ((L.take j).map C.dev)) ∧ Hid (Below w.heap.size w wr)) (fun _ i _ => n - (intOf i).toNat)
  case atStart => exact ⟨0, Nat.zero_le _, rfl, Lib.hid (OwnI.nil _ _), Lib.hid (Below.refl _ _)⟩
  case round =>
    obtain ⟨j, hj, rfl, HO, HW⟩ := hrel
    have hsz := HW.out.size
    by_cases hjn : j < n
    · have hjl : j < L.length := by rw [HN.out]; exact hjn
      obtain ⟨x, hx⟩ : ∃ x, L[j] = x := ⟨_, rfl⟩
      have hCx := (HC.out j hjl).below hlt HW.out
      rw [hx] at hCx
      obtain ⟨e0, e1, e2, e3⟩ := hCx
      have HT : Hid ((L.take (j + 1)).map C.dev = (L.take j).map C.dev ++ [x.dev]) := Lib.hid (by rw [List.take_add_one, List.getElem?_eq_getElem hjl, hx, List.map_append]; rfl)
      have HLE : Hid (((L.take j).map C.dev).length ≤ 100000) := Lib.hid (by rw [List.length_map, List.length_take]; omega)
      clear hx hjl
      go_wp2_with (first | (at_builtin; refine wpList_append_int _ rfl _ _ rfl w.heap.size _ _ x.dev (wr.heap.size + 1) 1 rfl rfl ((HO.out.below (boxed _ _)).below (boxed _ _)) (by simp) (by simp; omega) HLE.out ?_; intro v3 w3 hown3 hb3 hs3))
      go_roundw
      case rel => exact ⟨j + 1, by omega, by go_num, Lib.hid (by rw [HT.out]; exact hown3), Lib.hid ((grows_alloc (grows_alloc HW.out _) _).trans hb3)⟩
      case measure => simp [intOf]; omega
    · obtain rfl : j = n := by omega
      have hown := HO.out
      rw [List.take_of_length_le (by rw [HN.out]; exact Nat.le_refl _)] at hown
      obtain ⟨ga, ca, rfl⟩ : ∃ ga ca, u3 = .slice (some ⟨ga, 0, none⟩) j ca := by
        rcases hown.2 with ⟨_, h1⟩ | ⟨ga, ca, _, hv, _⟩
        · rw [List.length_map, HN.out] at h1; omega
        · exact ⟨ga, ca, by rw [hv, List.length_map, HN.out]⟩
      have HOW := Lib.hid hown
      have HLN : Hid ((L.map C.dev).length = j) := Lib.hid (by rw [List.length_map]; exact HN.out)
      clear hown HO
      go_wp2_with fail
      refine (own_sort HLN.out HOW.out (by omega) hsz).mono ?_
      rintro e w4 ⟨rfl, ho4, b4⟩
      have HO4 := Lib.hid ho4
      have HB4 := Lib.hid b4
      have HL4 : Hid (((L.map C.dev).mergeSort fun x y => decide (x ≤ y)).length = j) := Lib.hid (by rw [List.length_mergeSort]; exact HLN.out)
      clear ho4 b4
      go_wp2_with fail
      refine (own_compact HL4.out HO4.out (by omega) (Nat.le_trans hsz HB4.out.size) D HD.out (by rw [← HD.out, ← HLN.out]; exact devsS_le _)).mono ?_
      rintro e w5 ⟨rfl, hI, b5⟩
      go_wp2
      go_ret
      exact ⟨_, rfl, hI, (HW.out.trans HB4.out).trans b5⟩
end Go.Proofs.YtlhnmcopioeboaaGreat

/- code.without: the data columns, a device's made again. -/
namespace Go.Proofs.YtlhnmcopioeboaaGreat
set_option maxRecDepth 100000
open Go.RowKit M

/-- Each data column has another one in its row. -/
def Paired (L : List C) : Prop := ∀ a, a < L.length → parAt L a = false → 2 ≤ (idx (fun j => rowAt L j == rowAt L a) L.length).length

set_option maxHeartbeats 2000000 in
theorem without_any (L : List C) (G : List ByteArray) (vL vG : Value) (w : World) (hV : ColsV w vL L) (hG : Txt w vG G) (hGl : G.length = L.length) (h0 : 0 < L.length) (hl : L.length ≤ 100) (h2 : Paired L) (hz : ∀ s ∈ G, s.size ≤ 100000) (d : Int) :
    Calls Tryz.prog 56 #[vL, vG, .int .i64 d] w fun e w' => ∃ v', e = .returned v' ∧ Txt w' v' (wth L G d L.length) ∧ Below w.heap.size w w' := by
  have HV := Lib.hid hV
  have HT := Lib.hid hG
  obtain ⟨g, n, c, rfl, hn, hg, hC⟩ := hV.some (by omega)
  obtain ⟨gG, oG, cG, rfl, hcG, hgG, hCG⟩ := hG.isSome (by omega)
  rw [hGl, hn] at hcG HT ⊢
  have HL := Lib.hid hl
  rw [hn] at hl h0
  have HC := Lib.hid hC
  have HCG := Lib.hid hCG
  have HN := Lib.hid hn
  have HGL := Lib.hid hGl
  have HGN : Hid (G.length = n) := Lib.hid (by rw [hGl, hn])
  have H2 := Lib.hid h2
  have HZ := Lib.hid hz
  clear hV hG hGl hn hC hCG h2 hz
  go_enter Tryz.func56, Tryz.ntmps56
  go_wp2_with fail
  go_loopw [7, 12] (fun t7 i12 wr => ∃ (j m : Nat) (b : Option Addr) (cc : Nat), j ≤ n ∧ m ≤ j ∧ i12 = .int .i64 (j : Int) ∧ t7 = .slice b m cc ∧ Hid (Own wr w.heap.size (.slice b m cc) (wth L G d j)) ∧ Hid ((wth L G d j).length = m) ∧ Hid (Below w.heap.size w wr)) (fun _ i _ => n - (intOf i).toNat)
  case atStart => exact ⟨0, 0, none, 0, Nat.zero_le _, Nat.le_refl _, rfl, rfl, Lib.hid (World.ownsRow_nil _ _ _ _), Lib.hid rfl, Lib.hid (Below.refl _ _)⟩
  case round =>
    obtain ⟨j, m, b, cc, hj, hmj, rfl, rfl, HO, HM, HW⟩ := hrel
    have hsz := HW.out.size
    by_cases hjn : j < n
    · have hjL : j < L.length := by rw [HN.out]; exact hjn
      have hjG : j < G.length := by rw [HGN.out]; exact hjn
      obtain ⟨x, hx⟩ : ∃ x, L[j] = x := ⟨_, rfl⟩
      obtain ⟨y, hy⟩ : ∃ y, G[j] = y := ⟨_, rfl⟩
      have hCx := (HC.out j hjL).below hg HW.out
      rw [hx] at hCx
      obtain ⟨e0, e1, e2, e3⟩ := hCx
      have hyc := (HW.out.cell (p := ⟨gG, oG + j, none⟩) hgG).trans (HCG.out j hjG)
      rw [hy] at hyc
      have HPX : Hid (parAt L j = x.par) := Lib.hid (by rw [parAt_eq hjL, hx])
      have HDX : Hid (devAt L j = x.dev) := Lib.hid (by rw [devAt_eq hjL, hx])
      have HY : Hid (G.getD j ⟨#[]⟩ = y) := Lib.hid (by rw [List.getD_eq_getElem?_getD, List.getElem?_eq_getElem hjG, hy]; rfl)
      have HOb := Lib.hid (HO.out.below (boxed wr (.cells #[.int .i64 x.dev, .int .i64 x.at_, .bool x.par, .int .i64 x.row] 44)))
      have hlw : g < wr.heap.size := Nat.lt_of_lt_of_le hg hsz
      have hlG : gG < wr.heap.size := Nat.lt_of_lt_of_le hgG hsz
      have HJL := Lib.hid hjL
      clear hx hy hjL hjG
      cases hp : x.par with
      | true =>
        rw [hp] at e2 HOb
        have HNX : Hid (wth L G d (j + 1) = wth L G d j) := Lib.hid (wth_par (by rw [HPX.out]; exact hp))
        clear hp HPX
        go_wp2
        go_roundw
        case rel => exact ⟨j + 1, m, b, cc, by omega, by omega, by go_num, rfl, Lib.hid (by rw [HNX.out]; exact HOb.out), Lib.hid (by rw [HNX.out]; exact HM.out), Lib.hid (grows_alloc HW.out _)⟩
        case measure => simp [intOf]; omega
      | false =>
        rw [hp] at e2 HOb
        have HPF : Hid (parAt L j = false) := Lib.hid (by rw [HPX.out]; exact hp)
        clear hp HPX
        by_cases hd : x.dev = d
        · have hdb : (x.dev == d) = true := by simp [hd]
          obtain ⟨q, hq⟩ : ∃ q, agn L G j = q := ⟨_, rfl⟩
          have HNX : Hid (wth L G d (j + 1) = wth L G d j ++ [q]) := Lib.hid (by rw [wth_data HPF.out, HDX.out, if_pos hd, hq])
          have HM1 : Hid ((wth L G d j ++ [q]).length = m + 1) := Lib.hid (by rw [List.length_append, HM.out]; rfl)
          have HQ := Lib.hid hq
          clear hd hq
          go_wp2_with fail
          have bw : Below wr.heap.size wr (wr.alloc (.cells #[.int .i64 x.dev, .int .i64 x.at_, .bool false, .int .i64 x.row] 44)) := boxed _ _
          refine (cagain_any L G _ _ _ (HV.out.next (next HW.out bw)) (HT.out.below (next HW.out bw)) HGL.out HL.out j HJL.out (by unfold rowG; rw [List.length_map]; exact H2.out j HJL.out HPF.out) HZ.out).mono ?_
          rintro e w5 ⟨rfl, b5⟩
          rw [HQ.out]
          have hs5 := b5.size
          rw [World.size_alloc] at hs5
          have HO5 := Lib.hid (HOb.out.below b5)
          have HB5 := Lib.hid (next (next HW.out bw) b5)
          clear b5 bw
          go_wp2_with (at_builtin; refine wpList_append_txt _ rfl _ _ rfl w.heap.size _ _ _ [q] _ (m + 1) rfl rfl rfl HM1.out (HO5.out.alloc _) (txt_at _ q _ (by simp)) (by simp; omega) (by omega) ?_; intro b4 c4 w4 hO4 b04 s4)
          go_roundw
          case rel => exact ⟨j + 1, m + 1, b4, c4, by omega, by omega, by go_num, rfl, Lib.hid (by rw [HNX.out]; exact hO4), Lib.hid (by rw [HNX.out]; exact HM1.out), Lib.hid ((grows_alloc HB5.out _).trans b04)⟩
          case measure => simp [intOf]; omega
        · have hdb : (x.dev == d) = false := by simp [hd]
          have HNX : Hid (wth L G d (j + 1) = wth L G d j ++ [y]) := Lib.hid (by rw [wth_data HPF.out, HDX.out, if_neg hd, HY.out])
          have HM1 : Hid ((wth L G d j ++ [y]).length = m + 1) := Lib.hid (by rw [List.length_append, HM.out]; rfl)
          clear hd
          go_wp2_with (at_builtin; refine wpList_append_txt _ rfl _ _ rfl w.heap.size _ _ _ [y] _ (m + 1) rfl rfl rfl HM1.out (HOb.out.alloc _) (txt_at _ y _ (by simp)) (by simp; omega) (by omega) ?_; intro b4 c4 w4 hO4 b04 s4)
          go_roundw
          case rel => exact ⟨j + 1, m + 1, b4, c4, by omega, by omega, by go_num, rfl, Lib.hid (by rw [HNX.out]; exact hO4), Lib.hid (by rw [HNX.out]; exact HM1.out), Lib.hid ((grows_alloc (grows_alloc HW.out _) _).trans b04)⟩
          case measure => simp [intOf]; omega
    · obtain rfl : j = n := by omega
      go_wp2
      go_ret
      exact ⟨_, rfl, HO.out.txt, HW.out⟩
end Go.Proofs.YtlhnmcopioeboaaGreat

/- code.ofMirror, code.ofParity, code.Tries: what is answered is a function that hands out tries. -/
namespace Go.Proofs.YtlhnmcopioeboaaGreat
set_option maxRecDepth 100000
open Go.RowKit M

theorem below_alloc2 (w : World) (o : Obj) : Below w.heap.size w (w.alloc o) := boxed w o
theorem OwnC.since {w w' : World} {B : Nat} {v : Value} {l : List C} (h : OwnC B w v l) (hs : Since B w w') : OwnC B w' v l := by
  refine ⟨h.1, ?_⟩
  rcases h.2 with hn | ⟨g, cap, cur, rfl, hB, hg, rest⟩
  · exact .inl hn
  · exact .inr ⟨g, cap, cur, rfl, hB, by rw [hs.same g hB (Array.getElem?_eq_some_iff.1 hg).1]; exact hg, rest⟩
theorem Own.since {w w' : World} {B : Nat} {v : Value} {l : List ByteArray} (h : Own w B v l) (hs : Since B w w') : Own w' B v l := by
  refine ⟨h.1, ?_⟩
  rcases h.2 with hn | ⟨g, cap, cur, rfl, hB, hg, rest⟩
  · exact .inl hn
  · exact .inr ⟨g, cap, cur, rfl, hB, by rw [hs.same g hB (Array.getElem?_eq_some_iff.1 hg).1]; exact hg, rest⟩
theorem OwnI.since {w w' : World} {B : Nat} {v : Value} {l : List Int} (h : OwnI B w v l) (hs : Since B w w') : OwnI B w' v l := by
  refine ⟨h.1, ?_⟩
  rcases h.2 with hn | ⟨g, cap, cur, rfl, hB, hg, rest⟩
  · exact .inl hn
  · exact .inr ⟨g, cap, cur, rfl, hB, by rw [hs.same g hB (Array.getElem?_eq_some_iff.1 hg).1]; exact hg, rest⟩

theorem txt_nil (w : World) (a : Addr) (n c : Nat) : (binOp .eql 37 (.slice (some a) n c) (.slice none 0 0)).run Tryz.prog w = .ok (.bool false) w := by kernel_rfl
theorem col_nil (w : World) (a : Addr) (n c : Nat) : (binOp .eql 41 (.slice (some a) n c) (.slice none 0 0)).run Tryz.prog w = .ok (.bool false) w := by kernel_rfl
theorem clone_txt (l : List ByteArray) (v : Value) (w : World) (h : Txt w v l) (h0 : 0 < l.length) (hm : l.length ≤ 100000) :
    Calls Tryz.prog 26 #[v] w fun e w' => ∃ v', e = .returned v' ∧ Own w' w.heap.size v' l ∧ Below w.heap.size w w' := by
  have HT := Lib.hid h
  obtain ⟨g, o, c, rfl, hc, hg, hj⟩ := h.isSome h0
  generalize hn : l.length = n at h0 hm hc HT
  have HN := Lib.hid hn
  have hq := txt_nil w ⟨g, o, none⟩ n c
  clear h hj hn
  go_enter Tryz.func26, Tryz.ntmps26
  go_wp2_with (at_builtin; refine wpList_append_txt _ rfl _ _ rfl w.heap.size _ _ [] l _ n rfl rfl rfl HN.out (own_none w _ (Nat.le_refl _)) (HT.out.alloc _) (by simp) (by omega) ?_; intro b4 c4 w4 hO4 b04 s4)
  go_wp2
  go_ret
  exact ⟨_, rfl, hO4, (boxed w _).trans b04⟩

/-- append(v, m...), columns. -/
theorem wpList_append_cols {ops : Array Oper} {rest : List Oper} {o : Oper} {a : Act} {Q : Exit → Act → World → Prop} (w : World) (hgd : o.guard = none) (s x : Operand)
    (ho : o.op = .call { callee := .builtin .append, args := #[s, x], argTypes := #[41, 41] }) (B : Nat) (v : Value) (l m : List C) (g n c' : Nat) (hs : a.eval s = v) (hx : a.eval x = .slice (some ⟨g, 0, none⟩) n c')
    (hv : OwnC B w v l) (hm : m.length = n) (hc : ∀ j (h : j < m.length), IsC w g (j * 4) m[j]) (hB : B ≤ w.heap.size) (hN : l.length + n ≤ 100000)
    (h : ∀ v' w', OwnC B w' v' (l ++ m) → Below B w w' → w.heap.size ≤ w'.heap.size → wpList Tryz.prog ops Q rest (a.put o.dst v') w') : wpList Tryz.prog ops Q (o :: rest) a w := by
  obtain ⟨i, hi, hz, hsz, hb⟩ := info_col
  subst hm
  refine wpList_append_own_at w hgd s x _ ho B 44 i _ 4 32 Tryz.underlying41 hi hz hsz hb rfl (by decide) v l.length (flatC l) hs hv ⟨g, 0, none⟩ m.length c' (flatC m) hx (flatC_len m) (fun j u hj => ?_) (fun u hu => ?_) (by unfold maxLen; omega) (by omega) hB fun v' w' h1 h2 _ _ => ?_
  · have hlt : j < m.length * 4 := by rw [← flatC_len]; exact (List.getElem?_eq_some_iff.1 hj).1
    have e := flatC_at m (j / 4) (by omega) (j % 4) (Nat.mod_lt _ (by decide))
    have e2 := (hc (j / 4) (by omega)).get (j % 4) (Nat.mod_lt _ (by decide))
    rw [show j / 4 * 4 + j % 4 = j by omega] at e e2
    rw [Go.WideShapes.add_plain, Nat.zero_add, e2, ← e, hj]
  · exact flatC_one m u hu
  · refine h v' w' ?_ ((Below.refl B w).grown h2 hB fun k hk => (World.ownsRow.lt hv k hk).1) h2.size
    unfold OwnC
    rw [List.length_append, flatC_app]
    exact h1
theorem own_noC (w : World) (B : Nat) (hB : B ≤ w.heap.size) : OwnC B (w.alloc (.cells #[] 44)) (.slice (some ⟨w.heap.size, 0, none⟩) 0 0) [] := by
  have := World.ownsRow_lit (base := B) (e := 44) (size := 4) w #[] 0 hB (by decide) (by simp)
  simpa [OwnC, flatC] using this
theorem clone_col (l : List C) (v : Value) (w : World) (h : ColsV w v l) (h0 : 0 < l.length) (hm : l.length ≤ 1000) :
    Calls Tryz.prog 52 #[v] w fun e w' => ∃ v', e = .returned v' ∧ OwnC w.heap.size w' v' l ∧ Below w.heap.size w w' := by
  obtain ⟨g, n, c, rfl, hn, hg, hj⟩ := h.some h0
  have HJ := Lib.hid hj
  have HN := Lib.hid hn
  rw [hn] at h0 hm
  have hq := col_nil w ⟨g, 0, none⟩ n c
  clear h hj hn
  go_enter Tryz.func52, Tryz.ntmps52
  go_wp2_with (at_builtin; refine wpList_append_cols _ rfl _ _ rfl w.heap.size _ [] l g n c rfl rfl (own_noC w _ (Nat.le_refl _)) HN.out (fun j hj => (HJ.out j hj).below hg (boxed w _)) (by simp) (by simp; omega) ?_; intro v4 w4 hO4 b04 s4)
  go_wp2
  go_ret
  exact ⟨_, rfl, hO4, (boxed w _).trans b04⟩
end Go.Proofs.YtlhnmcopioeboaaGreat

/- code.ofMirror: the function that it answers hands out the tries of a Mirror's columns. -/
namespace Go.Proofs.YtlhnmcopioeboaaGreat
set_option maxRecDepth 100000
open Go.RowKit Go.Shelf M
attribute [local go_sem] Oper.semAt_some

section
variable {α β : Type} (f : α → Option β) (l : List α)
/-- How many of the first k come. -/
def fmN (k : Nat) : Nat := ((l.take k).filterMap f).length
theorem fm_zero : fmN f l 0 = 0 := by simp [fmN]
theorem fm_all : fmN f l l.length = (l.filterMap f).length := by simp [fmN]
theorem fm_le (k : Nat) : fmN f l k ≤ (l.filterMap f).length := by
  unfold fmN
  exact List.Sublist.length_le (List.Sublist.filterMap f (List.take_sublist k l))
theorem fm_some {k : Nat} (hk : k < l.length) {x : β} (h : f l[k] = some x) : (l.filterMap f)[fmN f l k]? = some x ∧ fmN f l (k + 1) = fmN f l k + 1 := by
  have e : l.filterMap f = (l.take k).filterMap f ++ x :: (l.drop (k + 1)).filterMap f := by
    conv => lhs; rw [← List.take_append_drop k l, List.drop_eq_getElem_cons hk, List.filterMap_append, List.filterMap_cons_some h]
  refine ⟨?_, ?_⟩
  · rw [e]; unfold fmN; rw [List.getElem?_append_right (Nat.le_refl _), Nat.sub_self]; rfl
  · unfold fmN
    rw [List.take_succ_eq_append_getElem hk, List.filterMap_append, List.length_append, List.filterMap_cons_some h]; rfl
theorem fm_none {k : Nat} (hk : k < l.length) (h : f l[k] = none) : fmN f l (k + 1) = fmN f l k := by
  unfold fmN
  rw [List.take_succ_eq_append_getElem hk, List.filterMap_append, List.length_append, List.filterMap_cons_none h]; rfl
end

/-- A try's two values. -/
def encT (x : Int × ByteArray) : Array Value := #[.int .i64 x.1, .string x.2]

theorem joined_no (l : List ByteArray) (v : Value) (w : World) (h : Txt w v l) (hm : l.length ≤ 100000) (hz : ∀ s ∈ l, s.size ≤ 100000) (hh : holeL l = true) :
    Calls Tryz.prog 50 #[v] w fun e w' => e = .returned (.tuple #[.string ⟨#[]⟩, .bool false]) ∧ Below w.heap.size w w' := by
  have := joined_any l v w h hm hz
  rw [hh] at this
  exact this
theorem joined_yes (l : List ByteArray) (v : Value) (w : World) (h : Txt w v l) (hm : l.length ≤ 100000) (hz : ∀ s ∈ l, s.size ≤ 100000) (hh : holeL l = false) :
    Calls Tryz.prog 50 #[v] w fun e w' => e = .returned (.tuple #[.string (joinB l), .bool true]) ∧ Below w.heap.size w w' := by
  have := joined_any l v w h hm hz
  rw [hh] at this
  exact this

/-- What a Mirror's function holds. -/
structure MirS (w : World) (B b1 b2 b3 : Nat) (vL vG : Value) (z : Nat) (L : List C) (G : List ByteArray) : Prop where
  c1 : w.cell? ⟨b1, 0, none⟩ = some vL
  c2 : w.cell? ⟨b2, 0, none⟩ = some (.int .i64 (z : Int))
  c3 : w.cell? ⟨b3, 0, none⟩ = some vG
  l1 : B ≤ b1 ∧ b1 < w.heap.size
  l2 : B ≤ b2 ∧ b2 < w.heap.size
  l3 : B ≤ b3 ∧ b3 < w.heap.size
  cols : OwnC B w vL L
  txts : Own w B vG G
theorem MirS.since {w w' : World} {B b1 b2 b3 : Nat} {vL vG : Value} {z : Nat} {L : List C} {G : List ByteArray} (h : MirS w B b1 b2 b3 vL vG z L G) (hs : Since B w w') : MirS w' B b1 b2 b3 vL vG z L G :=
  ⟨by rw [hs.cell (p := ⟨b1, 0, none⟩) h.l1.1 h.l1.2]; exact h.c1, by rw [hs.cell (p := ⟨b2, 0, none⟩) h.l2.1 h.l2.2]; exact h.c2, by rw [hs.cell (p := ⟨b3, 0, none⟩) h.l3.1 h.l3.2]; exact h.c3,
    ⟨h.l1.1, Nat.lt_of_lt_of_le h.l1.2 hs.size⟩, ⟨h.l2.1, Nat.lt_of_lt_of_le h.l2.2 hs.size⟩, ⟨h.l3.1, Nat.lt_of_lt_of_le h.l3.2 hs.size⟩, h.cols.since hs, h.txts.since hs⟩

theorem chunk_len {G : List ByteArray} {u z d : Nat} (hG : G.length = u * z) (hd : d < u) : (chunk G z d).length = z := by
  unfold chunk
  rw [List.length_take, List.length_drop, hG]
  have : (d + 1) * z ≤ u * z := Nat.mul_le_mul_right _ hd
  rw [Nat.add_mul] at this
  omega
theorem chunk_txt {w : World} {g o c : Nat} {G : List ByteArray} {u z d p : Nat} (hp : d * z = p) (hc : p + z ≤ c) (hG : G.length = u * z) (hd : d < u) (hg : g < w.heap.size) (hj : ∀ j (h : j < G.length), w.cell? ⟨g, o + j, none⟩ = some (.string G[j])) :
    Txt w (.slice (some ⟨g, o + p, none⟩) z (c - p)) (chunk G z d) := by
  have hl := chunk_len hG hd
  have hb : d * z + z ≤ u * z := by rw [← Nat.succ_mul]; exact Nat.mul_le_mul_right _ hd
  subst hp
  have := Txt.mk (w := w) (g := g) (o := o + d * z) (c := c - d * z) (l := chunk G z d) (by rw [hl]; omega) hg (fun j h => by
    have hjG : d * z + j < G.length := by rw [hG]; omega
    rw [Nat.add_assoc, hj _ hjG]
    have e : (chunk G z d)[j]? = some G[d * z + j] := by
      unfold chunk
      rw [List.getElem?_take, if_pos (by rw [← hl]; exact h), List.getElem?_drop, List.getElem?_eq_getElem hjG]
    rw [List.getElem?_eq_getElem h] at e
    rw [Option.some.inj e])
  rwa [hl] at this

set_option maxHeartbeats 2000000 in
theorem mir1_hands (n : Nat) (hn : 1 ≤ n) (w : World) (B b1 b2 b3 : Nat) (vL vG : Value) (u z : Nat) (L : List C) (G : List ByteArray) (hM : MirS w B b1 b2 b3 vL vG z L G) (hz1 : 1 ≤ z) (hz4 : z ≤ 4) (hu1 : 1 ≤ u) (hu8 : u ≤ 8) (hL : L.length = u * z) (hG : G.length = u * z) (hs : ∀ s ∈ G, s.size ≤ 1000) :
    HandsS Fence.wide n Tryz.prog 49 #[.pointer (some ⟨b1, 0, none⟩), .pointer (some ⟨b2, 0, none⟩), .pointer (some ⟨b3, 0, none⟩)] encT (triesM L G u z) B w := fun l J Jx W hW hJ hJx hJS hY h0 => by
  refine callsIn_of_wp Tryz.func49 rfl trivial ?_ rfl
  simp only [Tryz.ntmps49, List.size_toArray, List.length_cons, List.length_nil, Nat.reduceAdd, Nat.reduceSub, Array.replicate_succ, Array.replicate_zero, List.push_toArray, List.append_toArray, List.nil_append, List.cons_append]
  have hLp : 0 < u * z := Nat.mul_pos hu1 hz1
  obtain ⟨N, hN⟩ : ∃ N, u * z = N := ⟨_, rfl⟩
  rw [hN] at hL hG hLp
  have hN32 : N ≤ 32 := by rw [← hN]; exact Nat.mul_le_mul hu8 hz4
  obtain ⟨g, c, rfl, hc, hgB, hA⟩ := hM.cols.some (by omega)
  obtain ⟨gG, oG, cG, hvG, hcG, hgG, hjG⟩ := hM.txts.txt.isSome (by omega)
  subst hvG
  rw [hL] at hc
  rw [hG] at hcG
  have HM := Lib.hid hM
  rw [hL, hG] at HM
  have HY := Lib.hid hY
  have HJ := Lib.hid hJ
  have HJS := Lib.hid hJS
  have HN := Lib.hid hN
  have HL := Lib.hid hL
  have HG := Lib.hid hG
  have HSZ := Lib.hid hs
  have HJ0 := Lib.hid h0
  clear hY hJ hJx hJS hN hL hG hM hA hjG h0 hs
  have hW2 := HM.out.since hW
  gi_wp2_with fail
  gi_loopw [5] (fun t5 wr => ∃ d p : Nat, d ≤ u ∧ d * z = p ∧ p ≤ N ∧ t5 = .int .i64 (p : Int) ∧ Hid (J (fmN (fun d => tryOf (devAt L (d * z)) (chunk G z d)) (List.range u) d) wr) ∧ Hid (W.heap.size ≤ wr.heap.size)) (fun i _ => N - (intOf i).toNat)
  case atStart => exact ⟨0, 0, Nat.zero_le _, Nat.zero_mul _, Nat.zero_le _, rfl, Lib.hid (by rw [fm_zero]; exact HJ0.out), Lib.hid (Nat.le_refl _)⟩
  case round =>
    obtain ⟨d, p, hd, hp, hpN, rfl, HJd, HWr⟩ := hrel
    have HP := Lib.hid hp
    have hK := HM.out.since (HJS.out _ _ HJd.out)
    have hsz := (HJS.out _ _ HJd.out).size
    have HWS : Hid (W.heap.size ≤ wr.heap.size) := HWr
    obtain ⟨k1, k2, k3, -, -, -, hcols, htx⟩ := hK
    clear hp
    by_cases hlt : p < N
    · have hdu : d < u := by
        rcases Nat.lt_or_ge d u with h | h
        · exact h
        · exfalso
          have := Nat.mul_le_mul_right z h
          rw [HN.out, HP.out] at this
          omega
      have hpz : p + z ≤ N := by
        rw [← HP.out, ← HN.out, ← Nat.succ_mul]; exact Nat.mul_le_mul_right _ hdu
      have hT := chunk_txt (w := wr) (o := oG) (c := cG) HP.out (by omega) (by rw [HG.out, HN.out]) hdu (Nat.lt_of_lt_of_le hgG hsz) (fun j h => by
        obtain ⟨a', o', c', e, _, _, hj⟩ := htx.txt.isSome (by rw [HG.out]; omega)
        rw [HG.out] at e
        cases e
        exact hj j h)
      have hcl := chunk_len (z := z) (d := d) (show G.length = u * z by rw [HG.out, HN.out]) hdu
      have hcs : ∀ s ∈ chunk G z d, s.size ≤ 100000 := fun s hs => Nat.le_trans (HSZ.out s (List.mem_of_mem_drop (List.mem_of_mem_take hs))) (by decide)
      have hpL : p < L.length := by rw [HL.out]; exact hlt
      obtain ⟨x, hx⟩ : ∃ x, L[p] = x := ⟨_, rfl⟩
      have hxc : wr.cell? ⟨g, p * 4, none⟩ = some (.int .i64 x.dev) := by
        obtain ⟨g', c', e, _, _, hA⟩ := hcols.some (by omega)
        rw [HL.out] at e
        cases e
        rw [← hx]
        exact (hA.at_ p hpL).c0
      have hgl : g < wr.heap.size := by
        obtain ⟨g', c', e, _, _, hA⟩ := hcols.some (by omega)
        rw [HL.out] at e
        cases e
        exact hA.lt
      have HTR : Hid (tryOf (devAt L (d * z)) (chunk G z d) = if holeL (chunk G z d) then none else some (x.dev, joinB (chunk G z d))) := Lib.hid (by
        rw [HP.out, devAt_eq hpL, hx]; rfl)
      have HRL : Hid (d < (List.range u).length) := Lib.hid (by simpa using hdu)
      have q1 : IntKind.i64.wrap ((p : Int) + (z : Int)) = (p : Int) + (z : Int) := by rw [IntKind.wrap_i64]; omega
      have q2 : ((p : Int) + (z : Int)).toNat = p + z := by omega
      have q3 : (p : Int) + (z : Int) ≤ cG := by omega
      have q4 : ¬ p = cG := by omega
      have q5 : p + z - p = z := by omega
      have hb1 : b1 < wr.heap.size := Nat.lt_of_lt_of_le HM.out.l1.2 hsz
      have hb2 : b2 < wr.heap.size := Nat.lt_of_lt_of_le HM.out.l2.2 hsz
      clear hpL hx hcols htx
      cases hh : holeL (chunk G z d) with
      | true =>
        have HJN := Lib.hid (joined_no _ _ wr hT (by rw [hcl]; omega) hcs hh)
        have HF := Lib.hid (fm_none (fun d => tryOf (devAt L (d * z)) (chunk G z d)) (List.range u) HRL.out (by simp only [List.getElem_range]; rw [HTR.out, hh]; rfl))
        clear hcl hT hcs hh
        gi_wp2_with fail
        refine ⟨trivial, ?_⟩
        refine (callsIn_wide.2 HJN.out).mono ?_
        rintro e w1 ⟨rfl, b1'⟩
        have k11 := (b1'.cell (p := ⟨b1, 0, none⟩) hb1).trans k1
        have k12 := (b1'.cell (p := ⟨b2, 0, none⟩) hb2).trans k2
        have HJ1 := Lib.hid (HJ.out _ _ _ HJd.out (b1'.mono HWS.out))
        have hs1 := b1'.size
        clear k1 k2 k3 hxc b1' hgl hb1 hb2
        gi_wp2_with fail
        refine ⟨fun f hf => (by cases hf), ?_⟩
        gi_wp2
        go_roundw
        case rel => exact ⟨d + 1, p + z, hdu, by rw [Nat.succ_mul, HP.out], hpz, by go_num, Lib.hid (by rw [HF.out]; exact HJ1.out), Lib.hid (Nat.le_trans HWS.out hs1)⟩
        case measure => simp [intOf]; omega
      | false =>
        have HJN := Lib.hid (joined_yes _ _ wr hT (by rw [hcl]; omega) hcs hh)
        obtain ⟨hat, hne⟩ := fm_some (fun d => tryOf (devAt L (d * z)) (chunk G z d)) (List.range u) (x := (x.dev, joinB (chunk G z d))) HRL.out (by simp only [List.getElem_range]; rw [HTR.out, hh]; rfl)
        have HNE := Lib.hid hne
        have HAT := Lib.hid hat
        clear hcl hT hcs hh hne hat
        generalize joinB (chunk G z d) = tx at HAT HJN
        gi_wp2_with fail
        refine ⟨trivial, ?_⟩
        refine (callsIn_wide.2 HJN.out).mono ?_
        rintro e w1 ⟨rfl, b1'⟩
        have hx1 := (b1'.cell (p := ⟨g, p * 4, none⟩) hgl).trans hxc
        have k11 := (b1'.cell (p := ⟨b1, 0, none⟩) hb1).trans k1
        have k12 := (b1'.cell (p := ⟨b2, 0, none⟩) hb2).trans k2
        have HJ1 := Lib.hid (HJ.out _ _ _ HJd.out (b1'.mono HWS.out))
        have hs1 := b1'.size
        clear k1 k2 k3 hxc b1' hgl hb1 hb2
        obtain ⟨fn, tmps, assign, body, hy, hR⟩ := HY.out _ _ w1 HAT.out HJ1.out
        have HRR := Lib.hid hR
        clear hR
        unfold encT at hy
        gi_wp2_with fail
        refine HRR.out.mono ?_
        rintro e w4 (⟨rfl, hJ4, hs4⟩ | ⟨rfl, hx4⟩)
        · have HJ4 := Lib.hid hJ4
          have k24 := (HM.out.since (HJS.out _ _ hJ4)).c2
          have HS4 := Lib.hid hs4.size
          clear hJ4 hs4 k11 k12 hx1
          gi_wp2
          go_roundw
          case rel => exact ⟨d + 1, p + z, hdu, by rw [Nat.succ_mul, HP.out], hpz, by go_num, Lib.hid (by rw [HNE.out]; exact HJ4.out), Lib.hid (Nat.le_trans HWS.out (Nat.le_trans hs1 HS4.out))⟩
          case measure => simp [intOf]; omega
        · gi_wp2
          refine bodyPost_ret (results_none rfl _ _ _) rfl ?_
          exact ⟨⟨_, rfl⟩, .inr ⟨_, by rw [← HNE.out]; exact fm_le _ _ _, hx4⟩⟩
    · have hpe : p = N := by omega
      have hde : d = u := by
        have h1 := HP.out
        rw [hpe, ← HN.out] at h1
        exact Nat.eq_of_mul_eq_mul_right hz1 h1
      have HE := Lib.hid hde
      gi_wp2
      go_end0
      refine ⟨⟨_, rfl⟩, .inl ?_⟩
      have h1 := HJd.out
      rw [HE.out] at h1
      have h2 := fm_all (fun d => tryOf (devAt L (d * z)) (chunk G z d)) (List.range u)
      rw [List.length_range] at h2
      rw [h2] at h1
      exact h1
end Go.Proofs.YtlhnmcopioeboaaGreat

/- code.ofParity: the function that it answers hands out the tries of a Parity's columns. -/
namespace Go.Proofs.YtlhnmcopioeboaaGreat
set_option maxRecDepth 100000
open Go.RowKit Go.Shelf M
attribute [local go_sem] Oper.semAt_some

/-- What a Parity's function holds. -/
structure ParS (w : World) (B b1 b2 b3 : Nat) (vD vL vG : Value) (D : List Int) (L : List C) (G : List ByteArray) : Prop where
  c1 : w.cell? ⟨b1, 0, none⟩ = some vD
  c2 : w.cell? ⟨b2, 0, none⟩ = some vL
  c3 : w.cell? ⟨b3, 0, none⟩ = some vG
  l1 : B ≤ b1 ∧ b1 < w.heap.size
  l2 : B ≤ b2 ∧ b2 < w.heap.size
  l3 : B ≤ b3 ∧ b3 < w.heap.size
  devs : OwnI B w vD D
  cols : OwnC B w vL L
  txts : Own w B vG G
theorem ParS.since {w w' : World} {B b1 b2 b3 : Nat} {vD vL vG : Value} {D : List Int} {L : List C} {G : List ByteArray} (h : ParS w B b1 b2 b3 vD vL vG D L G) (hs : Since B w w') : ParS w' B b1 b2 b3 vD vL vG D L G :=
  ⟨by rw [hs.cell (p := ⟨b1, 0, none⟩) h.l1.1 h.l1.2]; exact h.c1, by rw [hs.cell (p := ⟨b2, 0, none⟩) h.l2.1 h.l2.2]; exact h.c2, by rw [hs.cell (p := ⟨b3, 0, none⟩) h.l3.1 h.l3.2]; exact h.c3,
    ⟨h.l1.1, Nat.lt_of_lt_of_le h.l1.2 hs.size⟩, ⟨h.l2.1, Nat.lt_of_lt_of_le h.l2.2 hs.size⟩, ⟨h.l3.1, Nat.lt_of_lt_of_le h.l3.2 hs.size⟩, h.devs.since hs, h.cols.since hs, h.txts.since hs⟩
theorem OwnI.at_ {w : World} {B : Nat} {v : Value} {zs : List Int} (h : OwnI B w v zs) (h0 : 0 < zs.length) : ∃ g c, v = .slice (some ⟨g, 0, none⟩) zs.length c ∧ zs.length ≤ c ∧ B ≤ g ∧ g < w.heap.size ∧ ∀ j (h : j < zs.length), w.cell? ⟨g, j, none⟩ = some (.int .i64 zs[j]) := by
  have hv := h.v
  rcases h.2 with ⟨_, hn⟩ | ⟨g, cap, cur, rfl, hB, hb, hnc, _⟩
  · omega
  · refine ⟨g, cap, rfl, hnc, hB, (Array.getElem?_eq_some_iff.1 hb).1, fun j hj => ?_⟩
    obtain ⟨a, n, c, e, _, _, hc⟩ := hv
    cases e
    obtain ⟨g', e', _, hx⟩ := hc j hj
    cases e'
    exact hx
theorem mkB_small {l : List ByteArray} {N : Nat} (h : ∀ s ∈ l, s.size ≤ N) : (mkB l).size ≤ N := by
  unfold mkB
  split
  · rw [parB_size]
    unfold wide
    cases l with
    | nil => exact Nat.zero_le _
    | cons s r => exact h s List.mem_cons_self
  · exact Nat.zero_le _
theorem wth_small {L : List C} {G : List ByteArray} {d : Int} {k N : Nat} (hG : ∀ s ∈ G, s.size ≤ N) : ∀ s ∈ wth L G d k, s.size ≤ N := by
  intro s hs
  obtain ⟨j, _, rfl⟩ := List.mem_map.1 hs
  show (if devAt L j = d then agn L G j else G.getD j ⟨#[]⟩).size ≤ N
  split
  · unfold agn
    exact mkB_small fun s hs => rowG_mem hG s (List.mem_of_mem_eraseIdx hs)
  · rw [List.getD_eq_getElem?_getD]
    cases h : G[j]? with
    | none => exact Nat.zero_le _
    | some t => exact hG t (List.mem_of_getElem? h)

set_option maxHeartbeats 2000000 in
theorem par2_hands (n : Nat) (hn : 1 ≤ n) (w : World) (B b1 b2 b3 : Nat) (vD vL vG : Value) (D : List Int) (L : List C) (G : List ByteArray) (hM : ParS w B b1 b2 b3 vD vL vG D L G) (hD0 : 0 < D.length) (hD : D.length ≤ 1000) (h0L : 0 < L.length) (hlL : L.length ≤ 100) (hp2 : Paired L) (hG : G.length = L.length) (hs : ∀ s ∈ G, s.size ≤ 1000) :
    HandsS Fence.wide n Tryz.prog 55 #[.pointer (some ⟨b1, 0, none⟩), .pointer (some ⟨b2, 0, none⟩), .pointer (some ⟨b3, 0, none⟩)] encT (triesP L G D) B w := fun l J Jx W hW hJ hJx hJS hY h0 => by
  refine callsIn_of_wp Tryz.func55 rfl trivial ?_ rfl
  simp only [Tryz.ntmps55, List.size_toArray, List.length_cons, List.length_nil, Nat.reduceAdd, Nat.reduceSub, Array.replicate_succ, Array.replicate_zero, List.push_toArray, List.append_toArray, List.nil_append, List.cons_append]
  obtain ⟨f, hf⟩ : ∃ f : Int → Option (Int × ByteArray), f = fun d => tryOf d (wth L G d L.length) := ⟨_, rfl⟩
  have HFT : Hid (triesP L G D = D.filterMap f) := Lib.hid (by rw [hf]; rfl)
  have HF := Lib.hid hf
  obtain ⟨gD, cD, rfl, hcD, hgB, hgl, hcd⟩ := hM.devs.at_ hD0
  obtain ⟨m, hm⟩ : ∃ m, D.length = m := ⟨_, rfl⟩
  rw [hm] at hcD hD hD0
  have HM := Lib.hid hM
  rw [hm] at HM
  have HY := Lib.hid hY
  have HJ := Lib.hid hJ
  have HJS := Lib.hid hJS
  have HN := Lib.hid hm
  have HG := Lib.hid hG
  have HSZ := Lib.hid hs
  have HJ0 := Lib.hid h0
  have HL0 := Lib.hid h0L
  have HLL := Lib.hid hlL
  have HP2 := Lib.hid hp2
  have k0 := (HM.out.since hW).c1
  clear hY hJ hJx hJS hm hG hM h0 hs hf hcd h0L hlL hp2
  gi_wp2_with fail
  clear k0
  gi_loopw [11] (fun i11 wr => ∃ j : Nat, j ≤ m ∧ i11 = .int .i64 (j : Int) ∧ Hid (J (fmN f D j) wr) ∧ Hid (W.heap.size ≤ wr.heap.size)) (fun i _ => m - (intOf i).toNat)
  case atStart => exact ⟨0, Nat.zero_le _, rfl, Lib.hid (by rw [fm_zero]; exact HJ0.out), Lib.hid (Nat.le_refl _)⟩
  case round =>
    obtain ⟨j, hj, rfl, HJd, HWS⟩ := hrel
    by_cases hlt : j < m
    · have hjD : j < D.length := by rw [HN.out]; exact hlt
      have hK := HM.out.since (HJS.out _ _ HJd.out)
      have hsz := (HJS.out _ _ HJd.out).size
      have hb2 : b2 < wr.heap.size := hK.l2.2
      have hb3 : b3 < wr.heap.size := hK.l3.2
      obtain ⟨-, k2, k3, -, -, -, hdv, hcols, htx⟩ := hK
      obtain ⟨d, hd⟩ : ∃ d, D[j] = d := ⟨_, rfl⟩
      have kd : wr.cell? ⟨gD, j, none⟩ = some (.int .i64 d) := by
        obtain ⟨g', c', e, _, _, _, hc⟩ := hdv.at_ (by omega)
        rw [HN.out] at e
        cases e
        rw [← hd]
        exact hc j hjD
      obtain ⟨aL, nL, cL, rfl, -⟩ := hcols.v
      obtain ⟨aG, cG, eG, -⟩ := htx.txt
      generalize G.length = nG at eG
      subst eG
      have HWI := Lib.hid (without_any L G _ _ wr hcols.v htx.txt HG.out HL0.out HLL.out HP2.out (fun s hs => Nat.le_trans (HSZ.out s hs) (by decide)) d)
      have HFJ : Hid (∀ h : j < D.length, f D[j] = if holeL (wth L G d L.length) then none else some (d, joinB (wth L G d L.length))) := Lib.hid (fun _ => by rw [hd, HF.out]; rfl)
      have HJD := Lib.hid hjD
      clear hdv hcols htx hd hjD
      gi_wp2_with fail
      refine ⟨trivial, ?_⟩
      refine (callsIn_wide.2 HWI.out).mono ?_
      rintro e w1 ⟨v1, rfl, hT1, b1'⟩
      obtain ⟨a1, c1, e1, -⟩ := id hT1
      generalize (wth L G d L.length).length = n1 at e1
      subst e1
      have hl1 : (wth L G d L.length).length ≤ 100000 := Nat.le_trans (wth_len L G d _) (by have := HLL.out; omega)
      have hz1 : ∀ s ∈ wth L G d L.length, s.size ≤ 100000 := fun s hs => Nat.le_trans (wth_small HSZ.out s hs) (by decide)
      have hs1 := b1'.size
      have HJ1 := Lib.hid (HJ.out _ _ _ HJd.out (b1'.mono HWS.out))
      have HWS1 : Hid (W.heap.size ≤ w1.heap.size) := Lib.hid (Nat.le_trans HWS.out hs1)
      clear b1' k2 k3 kd
      cases hh : holeL (wth L G d L.length) with
      | true =>
        have HJN := Lib.hid (joined_no _ _ w1 hT1 hl1 hz1 hh)
        have HNX := Lib.hid (fm_none f D HJD.out (by rw [HFJ.out, hh]; rfl))
        clear hh hT1 hl1 hz1
        gi_wp2_with fail
        refine ⟨trivial, ?_⟩
        refine (callsIn_wide.2 HJN.out).mono ?_
        rintro e w2 ⟨rfl, b2'⟩
        have HJ2 := Lib.hid (HJ.out _ _ _ HJ1.out (b2'.mono HWS1.out))
        have hs2 := b2'.size
        clear b2'
        gi_wp2_with fail
        refine ⟨fun f hf => (by cases hf), ?_⟩
        gi_wp2
        go_roundw
        case rel => exact ⟨j + 1, hlt, by go_num, Lib.hid (by rw [HNX.out]; exact HJ2.out), Lib.hid (Nat.le_trans HWS1.out hs2)⟩
        case measure => simp [intOf]; omega
      | false =>
        have HJN := Lib.hid (joined_yes _ _ w1 hT1 hl1 hz1 hh)
        obtain ⟨hat, hne⟩ := fm_some f D (x := (d, joinB (wth L G d L.length))) HJD.out (by rw [HFJ.out, hh]; rfl)
        rw [← HFT.out] at hat
        have HNE := Lib.hid hne
        have HAT := Lib.hid hat
        clear hh hT1 hl1 hz1 hne hat
        generalize joinB (wth L G d L.length) = tx at HAT HJN
        gi_wp2_with fail
        refine ⟨trivial, ?_⟩
        refine (callsIn_wide.2 HJN.out).mono ?_
        rintro e w2 ⟨rfl, b2'⟩
        have HJ2 := Lib.hid (HJ.out _ _ _ HJ1.out (b2'.mono HWS1.out))
        have hs2 := b2'.size
        clear b2'
        obtain ⟨fn, tmps, assign, body, hy, hR⟩ := HY.out _ _ w2 HAT.out HJ2.out
        have HRR := Lib.hid hR
        clear hR
        unfold encT at hy
        gi_wp2_with fail
        refine HRR.out.mono ?_
        rintro e w4 (⟨rfl, hJ4, hs4⟩ | ⟨rfl, hx4⟩)
        · have HJ4 := Lib.hid hJ4
          have HS4 := Lib.hid hs4.size
          clear hJ4 hs4
          gi_wp2
          go_roundw
          case rel => exact ⟨j + 1, hlt, by go_num, Lib.hid (by rw [HNE.out]; exact HJ4.out), Lib.hid (Nat.le_trans HWS1.out (Nat.le_trans hs2 HS4.out))⟩
          case measure => simp [intOf]; omega
        · gi_wp2
          refine bodyPost_ret (results_none rfl _ _ _) rfl ?_
          exact ⟨⟨_, rfl⟩, .inr ⟨_, by rw [← HNE.out, HFT.out]; exact fm_le _ _ _, hx4⟩⟩
    · obtain rfl : j = m := by omega
      gi_wp2
      go_end0
      refine ⟨⟨_, rfl⟩, .inl ?_⟩
      have h1 := HJd.out
      rw [← HN.out, fm_all, ← HFT.out] at h1
      exact h1
end Go.Proofs.YtlhnmcopioeboaaGreat

/- The devices of a block's columns: how many there are. -/
namespace Go.Proofs.YtlhnmcopioeboaaGreat
set_option maxRecDepth 100000
open Go.RowKit

structure Devd (f kk : Int) (u z : Nat) (L : List C) (D : List Int) : Prop where
  in_ : ∀ j (h : j < D.length), f ≤ D[j] ∧ D[j] < f + u
  up : ∀ j (h : j + 1 < D.length), D[j] < D[j + 1]
  pos : 0 < D.length
  few : D.length ≤ 32
  mir : kk = 0 → D.length = u ∧ L.length = z * u
  par : kk = 1 → D.length = (if L.length < u then L.length else u) ∧ z < L.length ∧ (L.length : Int) ≤ takesG (kk, (u : Int)) z
theorem devd (f kk : Int) (u : Nat) (s : Int) (t z : Nat) (hok : okG (kk, (u : Int)) = true) (z1 : 1 ≤ z) (z4 : z ≤ 4) (fit : (t : Int) + takesG (kk, (u : Int)) z ≤ gives (kk, (u : Int)) s) :
    Devd f kk u z (colsG f (kk, (u : Int)) t z) (devsS ((colsG f (kk, (u : Int)) t z).map C.dev)) := by
  have hL := laid f kk u s t z hok z1 z4 fit
  obtain ⟨h1, h2⟩ := devsS_spec ((colsG f (kk, (u : Int)) t z).map C.dev)
  have hu8 := okG_wide hok
  dsimp only at hu8
  refine ⟨fun j h => ?_, fun j h => List.pairwise_iff_getElem.1 h1 j (j + 1) (by omega) h (by omega), devsS_pos (by rw [List.length_map]; exact hL.pos), Nat.le_trans (devsS_le _) (by rw [List.length_map]; exact hL.few), fun e => ?_, fun e => ?_⟩
  · obtain ⟨c, hc, e⟩ := List.mem_map.1 ((h2 _).1 (List.getElem_mem h))
    obtain ⟨i, hi, rfl⟩ := List.getElem_of_mem hc
    rw [← e]
    exact ⟨hL.dev0 i hi, hL.dev1 i hi⟩
  · subst e
    have e : colsG f (0, (u : Int)) t z = mirL f t u z := by unfold colsG; rw [if_pos rfl]; simp
    rw [e]
    have hzp : 0 < z := by omega
    refine ⟨devsS_run (f := f) fun x => ?_, by rw [mirL_len, Nat.mul_comm]⟩
    rw [List.mem_map]
    constructor
    · rintro ⟨c, hc, rfl⟩
      obtain ⟨i, hi, rfl⟩ := List.getElem_of_mem hc
      have a := hL.dev0
      have b := hL.dev1
      rw [e] at a b
      exact ⟨a i hi, b i hi⟩
    · rintro ⟨ha, hb⟩
      obtain ⟨d, hd⟩ := Int.eq_ofNat_of_zero_le (show 0 ≤ x - f by omega)
      have hdu : d < u := by omega
      have hj : d * z < (mirL f t u z).length := by
        rw [mirL_len]
        have : (d + 1) * z ≤ u * z := Nat.mul_le_mul_right z hdu
        rw [Nat.add_mul, Nat.one_mul] at this
        omega
      refine ⟨_, List.getElem_mem hj, ?_⟩
      rw [mirL_get f t z hzp u _ hj]
      show f + ((d * z / z : Nat) : Int) = x
      rw [Nat.mul_div_cancel _ hzp]
      omega
  · subst e
    have e : colsG f (1, (u : Int)) t z = parTo f t u z := by unfold colsG; rw [if_neg Int.one_ne_zero]; simp
    have hu3 : 3 ≤ u := by
      rcases okG_cases hok with ⟨h, _⟩ | ⟨_, h, _⟩
      · omega
      · omega
    rw [e]
    obtain ⟨p1, p2, p3⟩ := par_fits u (by omega) hu3 z (by omega) z1
    rw [← parTo_len0 f t u z] at p1 p2 p3
    refine ⟨?_, by omega, p2⟩
    by_cases hn : (parTo f t u z).length < u
    · rw [if_pos hn, devsS_nodup, List.length_map]
      rw [List.nodup_iff_pairwise_ne, List.pairwise_iff_getElem]
      intro i j hi hj hij
      rw [List.length_map] at hi hj
      rw [List.getElem_map, List.getElem_map]
      obtain ⟨r1, b1, e1⟩ := parTo_get f t u z i hi
      obtain ⟨r2, b2, e2⟩ := parTo_get f t u z j hj
      rw [e1, e2]
      intro ed
      have ed' : f + (((t + i) % u : Nat) : Int) = f + (((t + j) % u : Nat) : Int) := ed
      have e3 : (t + i) % u = (t + j) % u := by omega
      have h2 := Nat.div_add_mod (t + i) u
      have h3 := Nat.div_add_mod (t + j) u
      rw [e3] at h2
      have h4 : u * ((t + j) / u) = u * ((t + i) / u) + (j - i) := by omega
      rcases Nat.lt_or_ge ((t + i) / u) ((t + j) / u) with h5 | h5
      · have h6 : u * ((t + i) / u + 1) ≤ u * ((t + j) / u) := Nat.mul_le_mul_left u h5
        rw [Nat.mul_add, Nat.mul_one] at h6
        omega
      · have h6 : u * ((t + j) / u) ≤ u * ((t + i) / u) := Nat.mul_le_mul_left u h5
        omega
    · rw [if_neg hn]
      refine devsS_run (f := f) fun x => ?_
      rw [List.mem_map]
      constructor
      · rintro ⟨c, hc, rfl⟩
        obtain ⟨i, hi, rfl⟩ := List.getElem_of_mem hc
        have a := hL.dev0
        have b := hL.dev1
        rw [e] at a b
        exact ⟨a i hi, b i hi⟩
      · rintro ⟨ha, hb⟩
        obtain ⟨d, hd⟩ := Int.eq_ofNat_of_zero_le (show 0 ≤ x - f by omega)
        have hdu : d < u := by omega
        have hmt := Nat.mod_lt t (show 0 < u by omega)
        have hjm := Nat.mod_lt (d + (u - t % u)) (show 0 < u by omega)
        have hj : (d + (u - t % u)) % u < (parTo f t u z).length := by omega
        refine ⟨_, List.getElem_mem hj, ?_⟩
        obtain ⟨r1, b1, e1⟩ := parTo_get f t u z _ hj
        rw [e1]
        show f + (((t + (d + (u - t % u)) % u) % u : Nat) : Int) = x
        have e4 : (t + (d + (u - t % u)) % u) % u = d := by
          rw [Nat.add_mod, Nat.mod_mod, ← Nat.add_mod]
          have h2 := Nat.div_add_mod t u
          have e5 : t + (d + (u - t % u)) = d + u * (t / u + 1) := by rw [Nat.mul_add, Nat.mul_one]; omega
          rw [e5, Nat.add_mul_mod_self_left, Nat.mod_eq_of_lt hdu]
        rw [e4]
        omega
theorem Blk.devd {l : List (Int × Int)} {s : Int} {k t z : Nat} (h : Blk l s k t z) {kk : Int} {u : Nat} (hl : l[k]'h.hk = (kk, (u : Int))) : Devd (aheadL l k) kk u z (colsOf l k t z) (devsS ((colsOf l k t z).map C.dev)) := by
  have hk := h.hk
  have hok := h.right.all k hk
  have hf := h.fit
  unfold colsOf
  rw [getD_at hk, hl]
  rw [hl] at hok hf
  exact Proofs.YtlhnmcopioeboaaGreat.devd _ _ _ s _ _ hok h.z1 h.z4 hf
end Go.Proofs.YtlhnmcopioeboaaGreat

/- code.Tries: a function that hands out what columns may come to. -/
namespace Go.Proofs.YtlhnmcopioeboaaGreat
set_option maxRecDepth 100000
open Go.RowKit Go.Shelf M

theorem HandsS.since {α : Type} {F : Fence} {n : Nat} {P : Program} {g : Nat} {lb : Array Value} {enc : α → Array Value} {xs : List α} {B B' : Nat} {w w' : World} (h : HandsS F n P g lb enc xs B w) (hB : B' ≤ B) (hs : Since B' w w') : HandsS F n P g lb enc xs B' w' :=
  fun l J Jx W hW hJ hJx hJS hY h0 => h l J Jx W ((hs.trans hW).mono hB) hJ hJx (fun k X hX => (hs.trans (hJS k X hX)).mono hB) hY h0
/-- The value v is a function that hands out xs. -/
def SeqT (B : Nat) (w : World) (v : Value) (xs : List (Int × ByteArray)) : Prop :=
  ∃ gf lb, v = .func (.func gf) #[] lb ∧ (∀ args w, (callFunc gf args).run Tryz.prog w = .ok (.enter gf args) w) ∧ ∀ n, 1 ≤ n → HandsS Fence.wide n Tryz.prog gf lb encT xs B w
theorem SeqT.since {B B' : Nat} {w w' : World} {v : Value} {xs : List (Int × ByteArray)} (h : SeqT B w v xs) (hB : B' ≤ B) (hs : Since B' w w') : SeqT B' w' v xs := by
  obtain ⟨gf, lb, e, h1, h2⟩ := h
  exact ⟨gf, lb, e, h1, fun n hn => (h2 n hn).since hB hs⟩

theorem tries1_hands (n : Nat) (_ : 1 ≤ n) (B : Nat) (w : World) : HandsS Fence.wide n Tryz.prog 25 #[] encT [] B w := fun l J Jx W hW hJ hJx hJS hY h0 => by
  refine callsIn_of_wp Tryz.func25 rfl trivial ?_ rfl
  simp only [Tryz.ntmps25, List.size_toArray, List.length_cons, List.length_nil, Nat.reduceAdd, Nat.reduceSub, Array.replicate_succ, Array.replicate_zero, List.push_toArray, List.append_toArray, List.nil_append, List.cons_append]
  have HJ0 := Lib.hid h0
  gi_wp2
  go_end0
  exact ⟨⟨_, rfl⟩, .inl HJ0.out⟩

theorem box_kept {w w' : World} {v : Value} {t : TypeId} {b : Nat} (hb : b = w.heap.size) (h : Below (w.alloc (.cells #[v] t)).heap.size (w.alloc (.cells #[v] t)) w') : w'.cell? ⟨b, 0, none⟩ = some v := by
  subst hb
  rw [h.cell (p := ⟨w.heap.size, 0, none⟩) (by simp), World.cell?_alloc_new]
  rfl
theorem box_now (w : World) (v : Value) (t : TypeId) {b : Nat} (hb : b = w.heap.size) : (w.alloc (.cells #[v] t)).cell? ⟨b, 0, none⟩ = some v := box_kept hb (Below.refl _ _)
/-- append(v, zs...), numbers. -/
theorem wpList_append_ints {ops : Array Oper} {rest : List Oper} {o : Oper} {a : Act} {Q : Exit → Act → World → Prop} (w : World) (hgd : o.guard = none) (s x : Operand)
    (ho : o.op = .call { callee := .builtin .append, args := #[s, x], argTypes := #[105, 105] }) (B : Nat) (v : Value) (l m : List Int) (g n c' : Nat) (hs : a.eval s = v) (hx : a.eval x = .slice (some ⟨g, 0, none⟩) n c')
    (hv : OwnI B w v l) (hm : m.length = n) (hc : ∀ j (h : j < m.length), w.cell? ⟨g, j, none⟩ = some (.int .i64 m[j])) (hB : B ≤ w.heap.size) (hN : l.length + n ≤ 100000)
    (h : ∀ v' w', OwnI B w' v' (l ++ m) → Below B w w' → w.heap.size ≤ w'.heap.size → wpList Tryz.prog ops Q rest (a.put o.dst v') w') : wpList Tryz.prog ops Q (o :: rest) a w := by
  obtain ⟨i, hi, hz, hsz, hb⟩ := infoI
  subst hm
  refine wpList_append_own_at w hgd s x _ ho B 3 i _ 1 8 Tryz.underlying105 hi hz hsz hb rfl (by decide) v l.length (l.map (Value.int .i64)) hs hv ⟨g, 0, none⟩ m.length c' (m.map (Value.int .i64)) hx (by simp) (fun j u hj => ?_) (fun u hu => ?_) (by unfold maxLen; omega) (by omega) hB fun v' w' h1 h2 _ _ => ?_
  · have hlt : j < m.length := by simpa using (List.getElem?_eq_some_iff.1 hj).1
    rw [Go.WideShapes.add_plain, Nat.zero_add, hc j hlt, ← hj, List.getElem?_map, List.getElem?_eq_getElem hlt]
    rfl
  · obtain ⟨y, _, rfl⟩ := List.mem_map.1 hu; rfl
  · refine h v' w' ?_ ((Below.refl B w).grown h2 hB fun k hk => (World.ownsRow.lt hv k hk).1) h2.size
    unfold OwnI
    rw [List.length_append, List.map_append]
    exact h1
theorem own_oneI (w : World) (B : Nat) (y : Int) (hB : B ≤ w.heap.size) : OwnI B (w.alloc (.cells #[.int .i64 y] 3)) (.slice (some ⟨w.heap.size, 0, none⟩) 1 1) [y] := by
  have := World.ownsRow_lit (base := B) (e := 3) (size := 1) w #[.int .i64 y] 1 hB (by decide) (by simp)
  simpa [OwnI] using this
theorem ofMirror_any (w : World) (B : Nat) (vL vG : Value) (u z : Nat) (L : List C) (G : List ByteArray) (hV : OwnC B w vL L) (hT : Own w B vG G) (hB : B ≤ w.heap.size) (hz1 : 1 ≤ z) (hz4 : z ≤ 4) (hu1 : 1 ≤ u) (hu8 : u ≤ 8) (hL : L.length = u * z) (hG : G.length = u * z) (hs : ∀ s ∈ G, s.size ≤ 1000) :
    Calls Tryz.prog 27 #[vL, .int .i64 (z : Int), vG] w fun e w' => ∃ v', e = .returned v' ∧ SeqT B w' v' (triesM L G u z) ∧ Below w.heap.size w w' := by
  have HV := Lib.hid hV
  have HT := Lib.hid hT
  obtain ⟨aL, cL, rfl⟩ := hV.none
  obtain ⟨aG, cG, eG, -⟩ := hT.txt
  subst eG
  obtain ⟨nL, hnL⟩ : ∃ n, L.length = n := ⟨_, rfl⟩
  obtain ⟨nG, hnG⟩ : ∃ n, G.length = n := ⟨_, rfl⟩
  have HH : Hid (∀ n, 1 ≤ n → ∀ w' b1 b2 b3, MirS w' B b1 b2 b3 (.slice aL nL cL) (.slice aG nG cG) z L G → HandsS Fence.wide n Tryz.prog 49 #[.pointer (some ⟨b1, 0, none⟩), .pointer (some ⟨b2, 0, none⟩), .pointer (some ⟨b3, 0, none⟩)] encT (triesM L G u z) B w') :=
    Lib.hid fun n hn w' b1 b2 b3 hM => mir1_hands n hn w' B b1 b2 b3 _ _ u z L G hM hz1 hz4 hu1 hu8 hL hG hs
  rw [hnL] at HV
  rw [hnG] at HT
  rw [hnL, hnG]
  clear hV hT hnL hnG hL hG hs
  go_enter Tryz.func27, Tryz.ntmps27
  go_wp2
  go_ret
  have bb : Below w.heap.size w (((w.alloc (.cells #[.slice aL nL cL] 41)).alloc (.cells #[.int .i64 (z : Int)] 3)).alloc (.cells #[.slice aG nG cG] 37)) := next (next (boxed _ _) (boxed _ _)) (boxed _ _)
  refine ⟨_, rfl, ⟨_, _, rfl, enters_of Tryz.func49 (by kernel_rfl) rfl, fun n hn => HH.out n hn _ _ _ _ ⟨?_, ?_, ?_, ⟨hB, by simp; omega⟩, ⟨by omega, by simp⟩, ⟨by omega, by simp⟩, HV.out.below bb, HT.out.below bb⟩⟩, bb⟩
  · exact box_kept rfl (next (boxed _ _) (boxed _ _))
  · exact box_kept (by simp) (boxed _ _)
  · exact box_now _ _ _ (by simp)

set_option maxHeartbeats 2000000 in
theorem ofParity_any (w : World) (B : Nat) (vL vG : Value) (L : List C) (G : List ByteArray) (hV : OwnC B w vL L) (hT : Own w B vG G) (hB : B ≤ w.heap.size) (h0 : 0 < L.length) (hl : L.length ≤ 32) (hH : Heads L) (hd : 0 < (datL L).length) (hp2 : Paired L) (hG : G.length = L.length) (hs : ∀ s ∈ G, s.size ≤ 1000) :
    Calls Tryz.prog 28 #[vL, vG] w fun e w' => ∃ v', e = .returned v' ∧ SeqT B w' v' (triesP L G (-1 :: devsS ((datL L).map C.dev))) ∧ Below w.heap.size w w' := by
  have HV := Lib.hid hV
  have HT := Lib.hid hT
  obtain ⟨aL, cL, rfl⟩ := hV.none
  obtain ⟨aG, cG, eG, -⟩ := hT.txt
  subst eG
  obtain ⟨nL, hnL⟩ : ∃ n, L.length = n := ⟨_, rfl⟩
  obtain ⟨nG, hnG⟩ : ∃ n, G.length = n := ⟨_, rfl⟩
  have HL0 := Lib.hid h0
  have HLL := Lib.hid hl
  obtain ⟨D, hD⟩ : ∃ D, devsS ((datL L).map C.dev) = D := ⟨_, rfl⟩
  have hDl : D.length ≤ 32 := by
    rw [← hD]
    refine Nat.le_trans (devsS_le _) ?_
    rw [List.length_map]
    unfold datL
    exact Nat.le_trans (List.length_filter_le _ _) hl
  rw [hD]
  have HH : Hid (∀ n, 1 ≤ n → ∀ w' b1 b2 b3 vD, ParS w' B b1 b2 b3 vD (.slice aL nL cL) (.slice aG nG cG) (-1 :: D) L G → HandsS Fence.wide n Tryz.prog 55 #[.pointer (some ⟨b1, 0, none⟩), .pointer (some ⟨b2, 0, none⟩), .pointer (some ⟨b3, 0, none⟩)] encT (triesP L G (-1 :: D)) B w') :=
    Lib.hid fun n hn w' b1 b2 b3 vD hM => par2_hands n hn w' B b1 b2 b3 _ _ _ _ L G hM (by simp) (by simp; omega) h0 (by omega) hp2 hG hs
  rw [hnL] at HV
  rw [hnG] at HT
  rw [hnL, hnG]
  have HHD := Lib.hid hH
  have HDA := Lib.hid hd
  have HD := Lib.hid hD
  have bb : Below w.heap.size w ((w.alloc (.cells #[.slice aL nL cL] 41)).alloc (.cells #[.slice aG nG cG] 37)) := next (boxed _ _) (boxed _ _)
  have HBB := Lib.hid bb
  have HCL := Lib.hid (clone_col L (.slice aL nL cL) _ (HV.out.v.next bb) h0 (by omega))
  clear hV hT hnL hnG hG hs hp2 hH hd hD bb h0 hl
  go_enter Tryz.func28, Tryz.ntmps28
  go_wp2_with fail
  refine HCL.out.mono ?_
  rintro e w1 ⟨v1, rfl, ho1, b1⟩
  have HB1 : Hid (Below w.heap.size w w1) := Lib.hid (next HBB.out b1)
  have HDF := Lib.hid (delete_any w1 _ v1 L ho1 b1.size (by have := HLL.out; omega) HHD.out)
  obtain ⟨a1, c1, e1⟩ := ho1.none
  generalize L.length = n1 at e1
  subst e1
  go_wp2_with fail
  refine HDF.out.mono ?_
  rintro e w2 ⟨v2, rfl, hV2, b2⟩
  have bd : Below w2.heap.size w2 (w2.alloc (.cells #[.int .i64 (-1)] 3)) := boxed _ _
  have hB2 : Below w1.heap.size w1 w2 ∨ True := .inr trivial
  have HW2 : Hid (Below w.heap.size w w2) := Lib.hid (HBB.out.trans ((b1.trans b2).mono HBB.out.size))
  have HDV := Lib.hid (devs_cols _ v2 (datL L) (hV2.next bd) HDA.out (by unfold datL; have := HLL.out; have := List.length_filter_le (fun x : C => !x.par) L; omega) D HD.out)
  obtain ⟨a2, n2, c2, rfl, -⟩ := id hV2
  obtain ⟨w0, hw0⟩ : ∃ w0, (w.alloc (.cells #[.slice aL nL cL] 41)).alloc (.cells #[.slice aG nG cG] 37) = w0 := ⟨_, rfl⟩
  have hs0 : w0.heap.size = w.heap.size + 2 := by rw [← hw0]; simp
  rw [hw0] at b1 b2
  have HW0 := Lib.hid hw0
  have HW02 : Hid (Below w0.heap.size w0 w2) := Lib.hid (b1.trans b2)
  clear b1 b2 HDF HCL ho1 hV2 HB1 HBB hB2 hw0
  go_wp2_with fail
  refine HDV.out.mono ?_
  rintro e w3 ⟨v3, rfl, hI3, b3⟩
  obtain ⟨a3, n3, c3, rfl, hn3, hc3, hj3⟩ := hI3
  have hD0 : 0 < D.length := by rw [← HD.out]; exact devsS_pos (by rw [List.length_map]; exact HDA.out)
  obtain ⟨g3, rfl, hg3, -⟩ := hj3 0 hD0
  have HC3 : Hid (∀ j (h : j < D.length), w3.cell? ⟨g3, j, none⟩ = some (.int .i64 D[j])) := Lib.hid fun j hj => by
    obtain ⟨g', e, _, hx⟩ := hj3 j hj
    cases e
    exact hx
  have HW3 := Lib.hid (next HW2.out (next bd b3))
  have HW03 := Lib.hid (next HW02.out (next bd b3))
  have HO3 := Lib.hid ((own_oneI w2 w0.heap.size (-1) HW02.out.size).below b3)
  have hs3 := HW03.out.size
  have HN3 := Lib.hid hn3
  have hn32 : n3 ≤ 32 := by omega
  clear hj3 hD0 bd b3 hn3
  go_wp2_with (at_builtin; refine wpList_append_ints _ rfl _ _ rfl w0.heap.size _ [-1] D g3 n3 c3 rfl rfl HO3.out HN3.out HC3.out hs3 (by simp; omega) ?_; intro v4 w4 hO4 b04 s4; obtain ⟨a4, n4, c4, e4, -⟩ := hO4.v; subst e4)
  go_ret
  have bw4 : Below w.heap.size w w4 := HW3.out.trans (b04.mono (by omega))
  have b5 := boxed w4 (.cells #[.slice a4 n4 c4] 105)
  have b6 := next bw4 b5
  have b7 : Below w0.heap.size w0 (w4.alloc (.cells #[.slice a4 n4 c4] 105)) := next (HW03.out.trans b04) b5
  have s7 := b7.size
  refine ⟨_, rfl, ⟨_, _, rfl, enters_of Tryz.func55 (by kernel_rfl) rfl, fun n hn => HH.out n hn _ _ _ _ _ ⟨box_now _ _ _ rfl, ?_, ?_, ⟨Nat.le_trans hB bw4.size, by simp⟩, ⟨hB, by omega⟩, ⟨by omega, by omega⟩, (hO4.below b5).lower (by omega), HV.out.below b6, HT.out.below b6⟩⟩, b6⟩
  · refine box_kept (t := 41) rfl ?_
    rw [← HW0.out] at b7
    exact next (boxed _ _) b7
  · refine box_kept (w := w.alloc (.cells #[.slice aL nL cL] 41)) (t := 37) (by simp) ?_
    rw [← HW0.out] at b7
    exact b7
end Go.Proofs.YtlhnmcopioeboaaGreat

/- code.Tries of any columns. -/
namespace Go.Proofs.YtlhnmcopioeboaaGreat
set_option maxRecDepth 100000
open Go.RowKit Go.Shelf M

/-- Each data column has another one in its row, told by rows and parities alone. -/
def pairedB (M : List (Int × Bool)) : Bool := M.all fun x => x.2 || decide (2 ≤ M.countP fun y => y.1 == x.1)
theorem paired_of {L : List C} (h : pairedB (L.map rp) = true) : Paired L := by
  intro a ha hp
  rw [idx_count (p := fun x : C => x.row == rowAt L a) L (fun j hj => by rw [rowAt_eq hj]) L.length (Nat.le_refl _), List.take_length]
  unfold pairedB at h
  rw [List.all_eq_true] at h
  have h1 := h (rp L[a]) (List.mem_map_of_mem (List.getElem_mem ha))
  rw [parAt_eq ha] at hp
  rw [rowAt_eq ha]
  simp only [rp, hp, Bool.false_or, decide_eq_true_iff, List.countP_map] at h1
  exact h1
theorem par_paired : ∀ u : Nat, u < 9 → 3 ≤ u → ∀ z : Nat, z < 5 → 1 ≤ z → pairedB ((parTo 0 0 u z).map rp) = true := by decide
theorem parTo_paired (f : Int) (t u z : Nat) (h3 : 3 ≤ u) (h8 : u ≤ 8) (z1 : 1 ≤ z) (z4 : z ≤ 4) : Paired (parTo f t u z) := paired_of (by rw [parTo_shape]; exact par_paired u (by omega) h3 z (by omega) z1)

/-- The kind of a block's group, and how wide it is. -/
structure Kinded (l : List (Int × Int)) (k t z : Nat) (kk : Int) (u : Nat) (L : List C) : Prop where
  grp : l.getD k (0, 0) = (kk, (u : Int))
  ok : (kk = 0 ∧ 1 ≤ u ∧ u ≤ 8 ∧ L = mirL (aheadL l k) t u z ∧ L.length = u * z) ∨ (kk = 1 ∧ 3 ≤ u ∧ u ≤ 8 ∧ L = parTo (aheadL l k) t u z ∧ Paired L)
theorem Blk.kinded {l : List (Int × Int)} {s : Int} {k t z : Nat} (h : Blk l s k t z) : ∃ kk u, Kinded l k t z kk u (colsOf l k t z) := by
  have hk := h.hk
  obtain ⟨kk, u, hlk, hok⟩ : ∃ kk u, l[k] = (kk, u) ∧ okG (kk, u) = true := ⟨l[k].1, l[k].2, rfl, h.right.all k hk⟩
  obtain ⟨u0, rfl⟩ := Int.eq_ofNat_of_zero_le (show 0 ≤ u by have := okG_wide hok; omega)
  have hg : l.getD k (0, 0) = (kk, (u0 : Int)) := by rw [getD_at hk, hlk]
  refine ⟨kk, u0, hg, ?_⟩
  unfold colsOf
  rw [hg]
  rcases okG_cases hok with ⟨rfl, h1, h2⟩ | ⟨rfl, h1, h2⟩
  · left
    have e : colsG (aheadL l k) (0, (u0 : Int)) t z = mirL (aheadL l k) t u0 z := by unfold colsG; rw [if_pos rfl]; simp
    rw [e]
    exact ⟨rfl, by omega, by omega, rfl, mirL_len _ _ _ _⟩
  · right
    have e : colsG (aheadL l k) (1, (u0 : Int)) t z = parTo (aheadL l k) t u0 z := by unfold colsG; rw [if_neg Int.one_ne_zero]; simp
    rw [e]
    exact ⟨rfl, by omega, by omega, rfl, parTo_paired _ _ _ _ (by omega) (by omega) h.z1 h.z4⟩
theorem Blk.data {l : List (Int × Int)} {s : Int} {k t z : Nat} (h : Blk l s k t z) : z ≤ (datL (colsOf l k t z)).length := by
  have hk := h.hk
  obtain ⟨kk, u, hlk, hok⟩ : ∃ kk u, l[k] = (kk, u) ∧ okG (kk, u) = true := ⟨l[k].1, l[k].2, rfl, h.right.all k hk⟩
  have hw := okG_wide hok
  obtain ⟨u0, rfl⟩ := Int.eq_ofNat_of_zero_le (show 0 ≤ u by omega)
  obtain ⟨R, hR⟩ := h.rowed hlk
  rw [hR.datas]
  split
  · exact Nat.le_mul_of_pos_right _ (by omega)
  · exact Nat.le_refl _

/-- What columns may come to. -/
def triesB (l : List (Int × Int)) (k t z : Nat) (G : List ByteArray) : List (Int × ByteArray) :=
  if (l.getD k (0, 0)).1 = 0 then triesM (colsOf l k t z) G (l.getD k (0, 0)).2.toNat z else triesP (colsOf l k t z) G (-1 :: devsS ((datL (colsOf l k t z)).map C.dev))
def triesOf (l : List (Int × Int)) (sc k t z : Int) (G : List ByteArray) : List (Int × ByteArray) := if fitsL l sc k t z G then triesB l k.toNat t.toNat z.toNat G else []
theorem fit_small {G : List ByteArray} (h : fitL G = true) : ∀ s ∈ G, s.size ≤ 1000 := by
  intro s hs
  unfold fitL at h
  rw [List.all_eq_true] at h
  have := h s hs
  unfold secT at this
  rw [Bool.or_eq_true, beq_iff_eq, beq_iff_eq] at this
  omega

set_option maxHeartbeats 2000000 in
theorem tries_any (l : List (Int × Int)) (sc : Int) (v : Value) (w : World) (h : Meas w v l sc) (k t z : Int) (hk : I64 k) (ht : I64 t) (hz : I64 z) (G : List ByteArray) (vG : Value) (hG : Txt w vG G) (hm : G.length ≤ 100000) :
    Calls Tryz.prog 10 #[v, .agg #[.int .i64 k, .int .i64 t], .int .i64 z, vG] w fun e w' => ∃ v', e = .returned v' ∧ SeqT w.heap.size w' v' (triesOf l sc k t z G) ∧ Below w.heap.size w w' := by
  have K1 := h
  obtain ⟨a, n, c, rfl, hg⟩ := id h
  replace K1 := Lib.hid (HeldP.start k t K1)
  have HC := Lib.hid (fitting_any l sc _ _ K1.out.h.m k t z hk ht hz G vG (hG.below K1.out.h.below) hm)
  have HG := Lib.hid hG
  obtain ⟨aG, cG, eG, -⟩ := hG
  generalize hn : G.length = nG at eG hm
  subst eG
  have HN := Lib.hid hn
  clear h hg hk ht hz hn
  go_enter Tryz.func10, Tryz.ntmps10
  go_wp2_with fail
  refine HC.out.mono ?_
  rintro e w1 ⟨v1, ok, rfl, ⟨hok, hyes, a1, n1, c1, rfl⟩, b1⟩
  have K2 := Lib.hid (K1.out.next b1)
  have hs1 := b1.size
  cases ok with
  | false =>
    have HT : Hid (triesOf l sc k t z G = []) := Lib.hid (by unfold triesOf; rw [← hok]; rfl)
    clear hok hyes b1
    go_wp2
    go_ret
    rw [HT.out]
    exact ⟨_, rfl, ⟨_, _, rfl, enters_of Tryz.func25 (by kernel_rfl) rfl, fun n hn => tries1_hands n hn _ _⟩, K2.out.h.below⟩
  | true =>
    obtain ⟨k', t', z', rfl, rfl, rfl, hB, hl, hf, hO⟩ := hyes rfl
    have HT : Hid (triesOf l sc k' t' z' G = triesB l k' t' z' G) := Lib.hid (by unfold triesOf; rw [← hok]; rfl)
    have hO' : OwnC w.heap.size w1 (.slice a1 n1 c1) (colsOf l k' t' z') := hO.lower K1.out.h.below.size
    have HO := Lib.hid hO'
    have hG0 : 0 < G.length := by rw [← hl]; exact hB.laid.pos
    have HCL := Lib.hid (clone_txt G _ w1 (HG.out.below K2.out.h.below) hG0 (by rw [HN.out]; exact hm))
    have HB := Lib.hid hB
    have HL := Lib.hid hl
    have HF := Lib.hid hf
    obtain ⟨kk, u, hK⟩ := hB.kinded
    have hkl := hB.hk
    have hlk : l[k'] = (kk, (u : Int)) := by rw [← getD_at hkl]; exact hK.grp
    have HLK : Hid (∃ h : k' < l.length, l[k'] = (kk, (u : Int))) := Lib.hid ⟨hkl, hlk⟩
    have HK := Lib.hid hK
    obtain ⟨z1, z4⟩ := And.intro hB.z1 hB.z4
    have hkk : kk = 0 ∨ kk = 1 := by rcases hK.ok with h | h; exact .inl h.1; exact .inr h.1
    have hnl := K2.out.h.len
    have hkn : k' < n := by rw [← hnl.1]; exact hkl
    have hk4 := hB.bounds.2
    have hn9 := hnl.2
    clear hok hyes b1 hO hO' hB hl hf hK hkl hlk hG0 hnl K1
    go_wp2_with fail
    refine HCL.out.mono ?_
    rintro e w2 ⟨v2, rfl, hO2, b2⟩
    have K3 := Lib.hid (K2.out.next b2)
    have HO2 := Lib.hid (hO2.lower (B' := w.heap.size) K2.out.h.below.size)
    have HO1 := Lib.hid (HO.out.below b2)
    obtain ⟨a2, c2, e2, -⟩ := hO2.txt
    have HBB := Lib.hid K3.out.h.below
    generalize G.length = n2 at e2
    subst e2
    clear hO2 b2 K2 HO
    obtain ⟨hh, p0, p1, plt⟩ := K3.out
    obtain ⟨g, o, rfl, hlt, e0, e1⟩ := hh.at_ HLK.out.1 HLK.out.2
    have c0 := hh.c0
    dsimp only at e0 e1
    clear hh
    rcases hkk with rfl | rfl
    · go_wp2_with fail
      refine (ofMirror_any _ w.heap.size _ _ u z' (colsOf l k' t' z') G HO1.out HO2.out HBB.out.size z1 z4 ?_ ?_ ?_ ?_ (fit_small HF.out)).mono ?_
      · rcases HK.out.ok with h | h
        · exact h.2.1
        · exact absurd h.1 (by decide)
      · rcases HK.out.ok with h | h
        · exact h.2.2.1
        · exact absurd h.1 (by decide)
      · rcases HK.out.ok with h | h
        · exact h.2.2.2.2
        · exact absurd h.1 (by decide)
      · rw [← HL.out]
        rcases HK.out.ok with h | h
        · exact h.2.2.2.2
        · exact absurd h.1 (by decide)
      · rintro e w5 ⟨v5, rfl, hS, b5⟩
        have HS : Hid (SeqT w.heap.size w5 v5 (triesOf l sc k' t' z' G)) := Lib.hid (by
          rw [HT.out, triesB, HK.out.grp, if_pos rfl]
          exact hS)
        obtain ⟨gf, lb, rfl, _⟩ := id hS
        go_wp2
        go_ret
        exact ⟨_, rfl, HS.out, next HBB.out b5⟩
    · go_wp2_with fail
      refine (ofParity_any _ w.heap.size _ _ (colsOf l k' t' z') G HO1.out HO2.out HBB.out.size HB.out.laid.pos HB.out.laid.few HB.out.heads (Nat.lt_of_lt_of_le HB.out.z1 HB.out.data) ?_ HL.out.symm (fit_small HF.out)).mono ?_
      · rcases HK.out.ok with h | h
        · exact absurd h.1 (by decide)
        · exact h.2.2.2.2
      · rintro e w5 ⟨v5, rfl, hS, b5⟩
        have HS : Hid (SeqT w.heap.size w5 v5 (triesOf l sc k' t' z' G)) := Lib.hid (by
          rw [HT.out, triesB, HK.out.grp, if_neg Int.one_ne_zero]
          exact hS)
        obtain ⟨gf, lb, rfl, _⟩ := id hS
        go_wp2
        go_ret
        exact ⟨_, rfl, HS.out, next HBB.out b5⟩
end Go.Proofs.YtlhnmcopioeboaaGreat
