/-
  A pool's devices in memory: what is kept while some of their blocks turn; a set of numbers.
-/
import Derived.Test.YtiffkbmcikiioaaGreatY01
import Derived.Test.YtiffkbmcikiioaaGreatY11
import Derived.Test.YtiffkbmcikiioaaGreatY17
import Derived.Maps.OwnSet

/- A pool's devices in memory: what is kept while some of their blocks turn; a set of numbers. -/
namespace Go.Proofs.YtiffkbmcikiioaaGreat
set_option maxRecDepth 100000
open Go.RowKit Go.Maps

theorem Turn.cell {fp : Nat → Prop} {w w' : World} (h : Turn fp w w') {b o : Nat} (hk : b < w.heap.size) (hn : ¬ fp b) : w'.cell? ⟨b, o, none⟩ = w.cell? ⟨b, o, none⟩ := World.cell?_of_block (w := w) (h.block b hk hn)
theorem frozen_of_block {w w' : World} {b o : Nat} (h : w'.heap[b]? = w.heap[b]?) : w'.frozen? ⟨b, o, none⟩ = w.frozen? ⟨b, o, none⟩ := by
  unfold World.frozen?
  rw [h]
theorem Turn.mono {fp fp' : Nat → Prop} {w w' : World} (h : Turn fp w w') (hf : ∀ k, fp k → fp' k) : Turn fp' w w' := ⟨h.os, h.tape, h.output, h.size, fun k hk hn => h.block k hk fun e => hn (hf k e)⟩

/-- P stands, whatever becomes of the blocks of which fp holds. -/
def Keep (fp : Nat → Prop) (w : World) (P : World → Prop) : Prop := ∀ w', Turn fp w w' → P w'
theorem Keep.out {fp : Nat → Prop} {w : World} {P : World → Prop} (h : Keep fp w P) : P w := h w (Turn.refl _ _)
theorem Keep.turn {fp fp1 : Nat → Prop} {w w1 : World} {P : World → Prop} (h : Keep fp w P) (t : Turn fp w w1) (hf : ∀ k, fp1 k → fp k ∨ w.heap.size ≤ k) : Keep fp1 w1 P := fun w2 t2 => h w2 (t.trans t2 hf)
theorem Keep.sub {fp fp1 : Nat → Prop} {w : World} {P : World → Prop} (h : Keep fp w P) (hf : ∀ k, fp1 k → fp k) : Keep fp1 w P := fun w' t => h w' (t.mono hf)
theorem Keep.and {fp : Nat → Prop} {w : World} {P Q : World → Prop} (h : Keep fp w P) (k : Keep fp w Q) : Keep fp w (fun w => P w ∧ Q w) := fun w' t => ⟨h w' t, k w' t⟩
theorem Keep.mono {fp : Nat → Prop} {w : World} {P Q : World → Prop} (h : Keep fp w P) (k : ∀ w, P w → Q w) : Keep fp w Q := fun w' t => k w' (h w' t)
/-- Q hangs on the blocks from B on. -/
def New (B : Nat) (w : World) (Q : World → Prop) : Prop := ∀ w', w.heap.size ≤ w'.heap.size → (∀ k, B ≤ k → k < w.heap.size → w'.heap[k]? = w.heap[k]?) → Q w'
theorem New.keep {fp : Nat → Prop} {B : Nat} {w : World} {Q : World → Prop} (h : New B w Q) (hf : ∀ k, fp k → k < B) : Keep fp w Q := fun w' t => h w' t.size fun k hB hk => t.block k hk fun e => by have := hf k e; omega
theorem New.out {B : Nat} {w : World} {Q : World → Prop} (h : New B w Q) : Q w := h w (Nat.le_refl _) fun _ _ _ => rfl
theorem New.and {B : Nat} {w : World} {P Q : World → Prop} (h : New B w P) (k : New B w Q) : New B w (fun w => P w ∧ Q w) := fun w' a b => ⟨h w' a b, k w' a b⟩
theorem New.mono {B : Nat} {w : World} {P Q : World → Prop} (h : New B w P) (k : ∀ w, P w → Q w) : New B w Q := fun w' a b => k w' (h w' a b)
theorem New.lower {B B' : Nat} {w : World} {P : World → Prop} (h : New B w P) (hB : B' ≤ B) : New B' w P := fun w' a b => h w' a fun k hk => b k (by omega)
theorem New.next {B : Nat} {w w1 : World} {P : World → Prop} (h : New B w P) (hb : Below w.heap.size w w1) : New B w1 P := fun w' a b => h w' (Nat.le_trans hb.size a) fun k hB hk => (b k hB (Nat.lt_of_lt_of_le hk hb.size)).trans (hb.block k hk)
theorem New.cell {B b o : Nat} {w : World} {v : Value} (h : w.cell? ⟨b, o, none⟩ = some v) (hB : B ≤ b) : New B w (fun w => w.cell? ⟨b, o, none⟩ = some v) := fun w' _ hb => by
  show w'.cell? _ = _
  rw [World.cell?_of_block (w := w) (hb b hB (World.block_lt_of_cell? w _ h))]
  exact h
theorem New.txt {B : Nat} {w : World} {v : Value} {l : List ByteArray} (h : Own w B v l) : New B w (fun w => Own w B v l) := fun w' _ hb => by
  refine ⟨h.1, ?_⟩
  rcases h.2 with hn | ⟨g, cap, cur, rfl, hB, hg, rest⟩
  · exact .inl hn
  · exact .inr ⟨g, cap, cur, rfl, hB, by rw [hb g hB (Array.getElem?_eq_some_iff.1 hg).1]; exact hg, rest⟩
theorem New.cols {B : Nat} {w : World} {v : Value} {l : List C} (h : OwnC B w v l) : New B w (fun w => OwnC B w v l) := fun w' _ hb => by
  refine ⟨h.1, ?_⟩
  rcases h.2 with hn | ⟨g, cap, cur, rfl, hB, hg, rest⟩
  · exact .inl hn
  · exact .inr ⟨g, cap, cur, rfl, hB, by rw [hb g hB (Array.getElem?_eq_some_iff.1 hg).1]; exact hg, rest⟩

/-- A row of values of one cell each. -/
structure RowV (w : World) (g n : Nat) (f : Nat → Value) : Prop where
  c : ∀ i, i < n → w.cell? ⟨g, i, none⟩ = some (f i)
  fz : ∀ i, i < n → w.frozen? ⟨g, i, none⟩ = false
def upd {α : Type} (f : Nat → α) (i : Nat) (v : α) (j : Nat) : α := if j = i then v else f j
theorem upd_same {α : Type} (f : Nat → α) (i : Nat) (v : α) : upd f i v i = v := by simp [upd]
theorem upd_other {α : Type} (f : Nat → α) {i j : Nat} (v : α) (h : j ≠ i) : upd f i v j = f j := by simp [upd, h]
theorem upd_self {α : Type} (f : Nat → α) (i : Nat) : upd f i (f i) = f := by
  funext j
  unfold upd
  split
  · subst j; rfl
  · rfl
theorem RowV.same {w w' : World} {g n : Nat} {f : Nat → Value} (h : RowV w g n f) (hb : w'.heap[g]? = w.heap[g]?) : RowV w' g n f :=
  ⟨fun i hi => by rw [World.cell?_of_block (w := w) hb]; exact h.c i hi, fun i hi => by rw [frozen_of_block hb]; exact h.fz i hi⟩
theorem RowV.set {w : World} {g n : Nat} {f : Nat → Value} (h : RowV w g n f) (j : Nat) (hj : j < n) (v : Value) : RowV (w.setCell ⟨g, j, none⟩ v) g n (upd f j v) := by
  refine ⟨fun k hk => ?_, fun k hk => by rw [World.frozen?_setCell]; exact h.fz k hk⟩
  by_cases e : k = j
  · subst e
    rw [World.cell?_setCell_same _ _ _ (h.c k hj), upd_same]
  · rw [World.cell?_setCell_other _ _ _ _ (by intro h; apply e; cases h; rfl), h.c k hk, upd_other _ _ e]
theorem RowV.congr {w : World} {g n : Nat} {f f' : Nat → Value} (h : RowV w g n f) (e : ∀ i, i < n → f i = f' i) : RowV w g n f' := ⟨fun i hi => by rw [← e i hi]; exact h.c i hi, h.fz⟩
theorem RowV.lt {w : World} {g n : Nat} {f : Nat → Value} (h : RowV w g n f) (hn : 0 < n) : g < w.heap.size := World.block_lt_of_cell? w _ (h.c 0 hn)

/-- A pool's devices, as a value. -/
structure Px where
  ga : Option Addr
  gn : Nat
  gc : Nat
  sc : Int
  lb : Nat
  n : Nat
  ab : Nat
def Px.g (x : Px) : Value := .agg #[.slice x.ga x.gn x.gc, .int .i64 x.sc]
def Px.val (x : Px) : Value := .agg #[.slice x.ga x.gn x.gc, .int .i64 x.sc, .slice (some ⟨x.lb, 0, none⟩) x.n x.n, .slice (some ⟨x.ab, 0, none⟩) x.n x.n]
/-- A device without a fuse, of so many sectors. -/
structure DGood (sc : Int) (K : Nat) (S : Dv) : Prop where
  fused : S.fused = false
  len : (S.med.length : Int) = sc
  cnt : S.cnt ≤ K
theorem DGood.mono {sc : Int} {K K' : Nat} {S : Dv} (h : DGood sc K S) (hk : K ≤ K') : DGood sc K' S := ⟨h.fused, h.len, Nat.le_trans h.cnt hk⟩

structure StF (m : Nat) (X : Nat → Prop) (B : Nat) (w : World) (x : Px) (l : List (Int × Int)) (ds : Nat → Dv) (aw : Nat → Bool) (K : Nat) (P : World → Prop) (fp : Nat → Prop) (F : Nat → Nat → Prop) (bs : Nat → Nat) : Prop where
  ptr : RowV w x.lb m (fun i => .pointer (some ⟨bs i, 0, none⟩))
  awy : RowV w x.ab x.n (fun i => .bool (aw i))
  dev : ∀ i, i < m → DevAt w (bs i) (ds i) (F i)
  good : ∀ i, i < m → DGood x.sc K (ds i)
  apart : ∀ i j k, i < m → j < m → F i k → F j k → i = j
  lbF : ∀ i, i < m → ¬ F i x.lb
  abF : ∀ i, i < m → ¬ F i x.ab
  lbab : x.lb ≠ x.ab
  fpF : ∀ i k, i < m → F i k → fp k
  fpl : fp x.lb
  fpa : fp x.ab
  lt : ∀ k, fp k → k < w.heap.size
  ge : ∀ k, fp k → B ≤ k
  xfp : ∀ k, X k → fp k
  xF : ∀ i k, i < m → X k → ¬ F i k
  xl : ¬ X x.lb
  xa : ¬ X x.ab
  keep : Keep (fun k => fp k ∨ k < B) w (fun w => Meas w x.g l x.sc ∧ P w)
/-- The first m devices ds of a pool, of which aw are away, lie in x, all from block B on; P stands beside them; the blocks X are none of theirs. -/
def StG (m : Nat) (X : Nat → Prop) (B : Nat) (w : World) (x : Px) (l : List (Int × Int)) (ds : Nat → Dv) (aw : Nat → Bool) (K : Nat) (P : World → Prop) : Prop := ∃ fp F bs, StF m X B w x l ds aw K P fp F bs
/-- All devices of a right measure. -/
def StX (X : Nat → Prop) (B : Nat) (w : World) (x : Px) (l : List (Int × Int)) (ds : Nat → Dv) (aw : Nat → Bool) (K : Nat) (P : World → Prop) : Prop := RightM l x.sc ∧ devsL l x.sc = (x.n : Int) ∧ StG x.n X B w x l ds aw K P
abbrev None8 : Nat → Prop := fun _ => False
abbrev St (B : Nat) (w : World) (x : Px) (l : List (Int × Int)) (ds : Nat → Dv) (aw : Nat → Bool) (K : Nat) (P : World → Prop) : Prop := StX None8 B w x l ds aw K P

section
variable {m : Nat} {X : Nat → Prop} {B : Nat} {w w' : World} {x : Px} {l : List (Int × Int)} {ds : Nat → Dv} {aw : Nat → Bool} {K : Nat} {P Q : World → Prop}
theorem StG.meas (h : StG m X B w x l ds aw K P) : Meas w x.g l x.sc := by
  obtain ⟨_, _, _, h⟩ := h
  exact h.keep.out.1
theorem StG.out (h : StG m X B w x l ds aw K P) : P w := by
  obtain ⟨_, _, _, h⟩ := h
  exact h.keep.out.2
theorem StG.good (h : StG m X B w x l ds aw K P) {i : Nat} (hi : i < m) : DGood x.sc K (ds i) := by
  obtain ⟨_, _, _, h⟩ := h
  exact h.good i hi
theorem StG.mono (h : StG m X B w x l ds aw K P) (k : ∀ w, P w → Q w) : StG m X B w x l ds aw K Q := by
  obtain ⟨fp, F, bs, h⟩ := h
  exact ⟨fp, F, bs, { h with keep := h.keep.mono fun w hp => ⟨hp.1, k w hp.2⟩ }⟩
theorem StG.sub (h : StG m X B w x l ds aw K P) {X' : Nat → Prop} (k : ∀ i, X' i → X i) : StG m X' B w x l ds aw K P := by
  obtain ⟨fp, F, bs, h⟩ := h
  exact ⟨fp, F, bs, { h with xfp := fun i hi => h.xfp i (k i hi), xF := fun i j hi hj => h.xF i j hi (k j hj), xl := fun e => h.xl (k _ e), xa := fun e => h.xa (k _ e) }⟩
theorem StG.more (h : StG m X B w x l ds aw K P) {K' : Nat} (hk : K ≤ K') : StG m X B w x l ds aw K' P := by
  obtain ⟨fp, F, bs, h⟩ := h
  exact ⟨fp, F, bs, { h with good := fun i hi => (h.good i hi).mono hk }⟩
theorem StG.lower (h : StG m X B w x l ds aw K P) {B' : Nat} (hB : B' ≤ B) : StG m X B' w x l ds aw K P := by
  obtain ⟨fp, F, bs, h⟩ := h
  exact ⟨fp, F, bs, { h with ge := fun i hi => Nat.le_trans hB (h.ge i hi), keep := h.keep.sub fun k hk => hk.imp id fun e => by omega }⟩
/-- Blocks that are none of the devices' have turned: those of X, and new ones, which may be of X from now on. -/
theorem StG.turnX (h : StG m X B w x l ds aw K P) {X' : Nat → Prop} (t : Turn X w w') (hX : ∀ k, X' k → X k ∨ w.heap.size ≤ k) (hlt : ∀ k, X' k → k < w'.heap.size) (hB : B ≤ w.heap.size) : StG m X' B w' x l ds aw K P := by
  obtain ⟨fp, F, bs, h⟩ := h
  have hF : ∀ i k, i < m → F i k → w'.heap[k]? = w.heap[k]? := fun i k hi hk => t.block k (h.lt k (h.fpF i k hi hk)) fun e => h.xF i k hi e hk
  refine ⟨fun k => fp k ∨ X' k, F, bs, ⟨h.ptr.same (t.block _ (h.lt _ h.fpl) h.xl), h.awy.same (t.block _ (h.lt _ h.fpa) h.xa), fun i hi => (h.dev i hi).same t.size fun k hk => hF i k hi hk, h.good, h.apart, h.lbF, h.abF, h.lbab,
    fun i k hi hk => .inl (h.fpF i k hi hk), .inl h.fpl, .inl h.fpa, fun k hk => ?_, fun k hk => ?_, fun k hk => .inr hk, fun i k hi hk hf => ?_, fun e => ?_, fun e => ?_, h.keep.turn (t.mono fun k hk => .inl (h.xfp k hk)) fun k hk => ?_⟩⟩
  · rcases hk with hk | hk
    · exact Nat.lt_of_lt_of_le (h.lt k hk) t.size
    · exact hlt k hk
  · rcases hk with hk | hk
    · exact h.ge k hk
    · rcases hX k hk with e | e
      · exact h.ge k (h.xfp k e)
      · omega
  · rcases hX k hk with e | e
    · exact h.xF i k hi e hf
    · have := h.lt k (h.fpF i k hi hf); omega
  · rcases hX _ e with e | e
    · exact h.xl e
    · have := h.lt _ h.fpl; omega
  · rcases hX _ e with e | e
    · exact h.xa e
    · have := h.lt _ h.fpa; omega
  · rcases hk with (hk | hk) | hk
    · exact .inl (.inl hk)
    · exact (hX k hk).imp (fun e => .inl (h.xfp k e)) id
    · exact .inl (.inr hk)
theorem StG.lt (h : StG m X B w x l ds aw K P) : (∀ k, X k → k < w.heap.size) ∧ B ≤ w.heap.size := by
  obtain ⟨fp, F, bs, h⟩ := h
  refine ⟨fun k hk => h.lt k (h.xfp k hk), ?_⟩
  have h1 := h.ge _ h.fpl
  have h2 := h.lt _ h.fpl
  omega
theorem StG.below (h : StG m X B w x l ds aw K P) (hb : Below w.heap.size w w') : StG m X B w' x l ds aw K P :=
  h.turnX (Turn.of_below hb) (fun _ hk => .inl hk) (fun k hk => Nat.lt_of_lt_of_le (h.lt.1 k hk) hb.size) h.lt.2
theorem StG.add (h : StG m X B w x l ds aw K P) (hb : Below w.heap.size w w') (hq : New w.heap.size w' Q) : StG m X B w' x l ds aw K (fun w => P w ∧ Q w) := by
  obtain ⟨fp, F, bs, h⟩ := h
  have t : Turn (fun k => fp k ∨ k < B) w w' := Turn.of_below hb
  have hBs : B ≤ w.heap.size := Nat.le_trans (h.ge _ h.fpl) (Nat.le_of_lt (h.lt _ h.fpl))
  refine ⟨fp, F, bs, ⟨h.ptr.same (hb.block _ (h.lt _ h.fpl)), h.awy.same (hb.block _ (h.lt _ h.fpa)), fun i hi => (h.dev i hi).below hb, h.good, h.apart, h.lbF, h.abF, h.lbab, h.fpF, h.fpl, h.fpa, fun k hk => Nat.lt_of_lt_of_le (h.lt k hk) hb.size, h.ge, h.xfp, h.xF, h.xl, h.xa, ?_⟩⟩
  exact fun w2 t2 => ⟨(h.keep w2 (t.trans t2 fun k hk => .inl hk)).1, (h.keep w2 (t.trans t2 fun k hk => .inl hk)).2, (hq.keep (fp := fun k => fp k ∨ k < B) fun k hk => hk.elim (h.lt k) fun e => by omega) w2 t2⟩
/-- A device, to be read. -/
theorem StG.at_ (h : StG m X B w x l ds aw K P) {i : Nat} (hi : i < m) : ∃ b f, w.cell? ⟨x.lb, i, none⟩ = some (.pointer (some ⟨b, 0, none⟩)) ∧ DevAt w b (ds i) f := by
  obtain ⟨fp, F, bs, h⟩ := h
  exact ⟨bs i, F i, h.ptr.c i hi, h.dev i hi⟩
theorem StG.away (h : StG m X B w x l ds aw K P) {i : Nat} (hi : i < x.n) : w.cell? ⟨x.ab, i, none⟩ = some (.bool (aw i)) ∧ w.frozen? ⟨x.ab, i, none⟩ = false := by
  obtain ⟨fp, F, bs, h⟩ := h
  exact ⟨h.awy.c i hi, h.awy.fz i hi⟩
/-- Something is done to a device. -/
theorem StG.did (h : StG m X B w x l ds aw K P) {i : Nat} (hi : i < m) : ∃ b f, w.cell? ⟨x.lb, i, none⟩ = some (.pointer (some ⟨b, 0, none⟩)) ∧ DevAt w b (ds i) f ∧
    ∀ S' w' K', Did f b S' w w' → DGood x.sc K' S' → K ≤ K' → StG m X B w' x l (upd ds i S') aw K' P ∧ Below B w w' ∧ w'.heap[x.lb]? = w.heap[x.lb]? ∧ ∀ k, X k → w'.heap[k]? = w.heap[k]? := by
  obtain ⟨fp, F, bs, h⟩ := h
  refine ⟨bs i, F i, h.ptr.c i hi, h.dev i hi, fun S' w' K' ⟨f', hd, hf', t⟩ hg hK => ?_⟩
  have hlt : ∀ k, F i k → k < w.heap.size := fun k hk => h.lt k (h.fpF i k hi hk)
  have hsz : B ≤ w.heap.size := by
    have h1 := h.ge _ h.fpl
    have h2 := h.lt _ h.fpl
    omega
  refine ⟨⟨fun k => fp k ∨ f' k, upd F i f', bs, ⟨h.ptr.same (t.block _ (h.lt _ h.fpl) (h.lbF i hi)), h.awy.same (t.block _ (h.lt _ h.fpa) (h.abF i hi)), fun j hj => ?_, fun j hj => ?_, ?_, fun j hj => ?_, fun j hj => ?_, h.lbab, fun j k hj hk => ?_, .inl h.fpl, .inl h.fpa, fun k hk => ?_, fun k hk => ?_, fun k hk => .inl (h.xfp k hk), fun j k hj hk => ?_, h.xl, h.xa, h.keep.turn (t.mono fun k hk => .inl (h.fpF i k hi hk)) fun k hk => ?_⟩⟩, t.below (fun k hk => h.ge k (h.fpF i k hi hk)) hsz, t.block _ (h.lt _ h.fpl) (h.lbF i hi), fun k hk => t.block k (h.lt k (h.xfp k hk)) fun e => h.xF i k hi hk e⟩
  · by_cases e : j = i
    · subst e; rw [upd_same, upd_same]; exact hd
    · rw [upd_other _ _ e, upd_other _ _ e]
      exact (h.dev j hj).same t.size fun k hk => t.block k (h.lt k (h.fpF j k hj hk)) fun e2 => e (h.apart j i k hj hi hk e2)
  · by_cases e : j = i
    · subst e; rw [upd_same]; exact hg
    · rw [upd_other _ _ e]; exact (h.good j hj).mono hK
  · intro a b k ha hb h1 h2
    by_cases ea : a = i
    · by_cases eb : b = i
      · rw [ea, eb]
      · subst ea
        rw [upd_same] at h1
        rw [upd_other _ _ eb] at h2
        rcases hf' k h1 with e | e
        · exact h.apart _ _ k ha hb e h2
        · have := h.lt k (h.fpF b k hb h2); omega
    · rw [upd_other _ _ ea] at h1
      by_cases eb : b = i
      · subst eb
        rw [upd_same] at h2
        rcases hf' k h2 with e | e
        · exact h.apart _ _ k ha hb h1 e
        · have := h.lt k (h.fpF a k ha h1); omega
      · rw [upd_other _ _ eb] at h2
        exact h.apart a b k ha hb h1 h2
  · by_cases e : j = i
    · subst e; rw [upd_same]
      intro e2
      rcases hf' _ e2 with e2 | e2
      · exact h.lbF _ hi e2
      · have := h.lt _ h.fpl; omega
    · rw [upd_other _ _ e]; exact h.lbF j hj
  · by_cases e : j = i
    · subst e; rw [upd_same]
      intro e2
      rcases hf' _ e2 with e2 | e2
      · exact h.abF _ hi e2
      · have := h.lt _ h.fpa; omega
    · rw [upd_other _ _ e]; exact h.abF j hj
  · by_cases e : j = i
    · subst e; rw [upd_same] at hk; exact .inr hk
    · rw [upd_other _ _ e] at hk; exact .inl (h.fpF j k hj hk)
  · rcases hk with hk | hk
    · exact Nat.lt_of_lt_of_le (h.lt k hk) t.size
    · obtain ⟨_, _, _, _, hin⟩ := hd
      exact hin.lt k hk
  · rcases hk with hk | hk
    · exact h.ge k hk
    · rcases hf' k hk with e | e
      · exact h.ge k (h.fpF i k hi e)
      · omega
  · by_cases e : j = i
    · subst e; rw [upd_same]
      intro e2
      rcases hf' _ e2 with e2 | e2
      · exact h.xF _ _ hi hk e2
      · have := h.lt _ (h.xfp k hk); omega
    · rw [upd_other _ _ e]; exact h.xF j k hj hk
  · rcases hk with (hk | hk) | hk
    · exact .inl (.inl hk)
    · exact (hf' k hk).imp (fun e => .inl (h.fpF i k hi e)) id
    · exact .inl (.inr hk)
/-- A device's mark is set. -/
theorem StG.mark (h : StG m X B w x l ds aw K P) {i : Nat} (hi : i < x.n) (v : Bool) : StG m X B (w.setCell ⟨x.ab, i, none⟩ (.bool v)) x l ds (upd aw i v) K P ∧ Below B w (w.setCell ⟨x.ab, i, none⟩ (.bool v)) ∧ ∀ k, X k → (w.setCell ⟨x.ab, i, none⟩ (.bool v)).heap[k]? = w.heap[k]? := by
  obtain ⟨fp, F, bs, h⟩ := h
  have ho : ∀ k, k ≠ x.ab → (w.setCell ⟨x.ab, i, none⟩ (.bool v)).heap[k]? = w.heap[k]? := fun k hk => Below.heap_setCell _ _ _ _ hk
  have hz : (w.setCell ⟨x.ab, i, none⟩ (.bool v)).heap.size = w.heap.size := by simp [World.setCell]
  have t : Turn fp w (w.setCell ⟨x.ab, i, none⟩ (.bool v)) := (Turn.refl fp w).setCell (.inl h.fpa) _
  refine ⟨⟨fp, F, bs, ⟨h.ptr.same (ho _ h.lbab), (h.awy.set i hi (.bool v)).congr fun j _ => ?_, fun j hj => (h.dev j hj).same (by rw [hz]; exact Nat.le_refl _) fun k hk => ho k fun e => h.abF j hj (e ▸ hk), h.good, h.apart, h.lbF, h.abF, h.lbab, h.fpF, h.fpl, h.fpa, fun k hk => by rw [hz]; exact h.lt k hk, h.ge, h.xfp, h.xF, h.xl, h.xa, h.keep.turn (t.mono fun _ hk => .inl hk) fun _ hk => .inl hk⟩⟩, ?_, fun k hk => ho k fun e => h.xa (e ▸ hk)⟩
  · unfold upd; split <;> rfl
  · have h1 := h.ge _ h.fpl
    have h2 := h.lt _ h.fpl
    exact t.below h.ge (by omega)
/-- Blocks that lie ahead of all that is the devices' have turned. -/
theorem StG.old (h : StG m X B w x l ds aw K P) (t : Turn (fun k => k < B) w w') : StG m X B w' x l ds aw K P := by
  obtain ⟨fp, F, bs, h⟩ := h
  have hs : ∀ k, fp k → w'.heap[k]? = w.heap[k]? := fun k hk => t.block k (h.lt k hk) fun e => by have := h.ge k hk; omega
  exact ⟨fp, F, bs, ⟨h.ptr.same (hs _ h.fpl), h.awy.same (hs _ h.fpa), fun i hi => (h.dev i hi).same t.size fun k hk => hs k (h.fpF i k hi hk), h.good, h.apart, h.lbF, h.abF, h.lbab, h.fpF, h.fpl, h.fpa, fun k hk => Nat.lt_of_lt_of_le (h.lt k hk) t.size, h.ge, h.xfp, h.xF, h.xl, h.xa, h.keep.turn (t.mono fun _ hk => .inr hk) fun _ hk => .inl hk⟩⟩
/-- The blocks X are let go, and what stands in them is kept from now on. -/
theorem StG.release (h : StG m X B w x l ds aw K P) (hx : ∀ k, X k → B ≤ k) (hq : ∀ w', w.heap.size ≤ w'.heap.size → (∀ k, X k → w'.heap[k]? = w.heap[k]?) → Q w') : StG m (fun _ => False) B w x l ds aw K (fun w => P w ∧ Q w) := by
  obtain ⟨fp, F, bs, h⟩ := h
  refine ⟨fun k => fp k ∧ ¬ X k, F, bs, ⟨h.ptr, h.awy, h.dev, h.good, h.apart, h.lbF, h.abF, h.lbab, fun i k hi hk => ⟨h.fpF i k hi hk, fun e => h.xF i k hi e hk⟩, ⟨h.fpl, h.xl⟩, ⟨h.fpa, h.xa⟩, fun k hk => h.lt k hk.1, fun k hk => h.ge k hk.1, fun k hk => hk.elim, fun i k hi hk => hk.elim, fun e => e, fun e => e, fun w' t => ?_⟩⟩
  have hk := h.keep.sub (fp1 := fun k => (fp k ∧ ¬ X k) ∨ k < B) fun k hk => hk.imp (fun e => e.1) id
  exact ⟨(hk w' t).1, (hk w' t).2, hq w' t.size fun k hX => t.block k (h.lt k (h.xfp k hX)) fun e => e.elim (fun e => e.2 hX) fun e => by have := hx k hX; omega⟩
end

section
variable {X : Nat → Prop} {B : Nat} {w w' : World} {x : Px} {l : List (Int × Int)} {ds : Nat → Dv} {aw : Nat → Bool} {K : Nat} {P Q : World → Prop}
theorem StX.right (h : StX X B w x l ds aw K P) : RightM l x.sc ∧ devsL l x.sc = (x.n : Int) := ⟨h.1, h.2.1⟩
theorem StX.meas (h : StX X B w x l ds aw K P) : Meas w x.g l x.sc := h.2.2.meas
theorem StX.out (h : StX X B w x l ds aw K P) : P w := h.2.2.out
theorem StX.good (h : StX X B w x l ds aw K P) {i : Nat} (hi : i < x.n) : DGood x.sc K (ds i) := h.2.2.good hi
theorem StX.mono (h : StX X B w x l ds aw K P) (k : ∀ w, P w → Q w) : StX X B w x l ds aw K Q := ⟨h.1, h.2.1, h.2.2.mono k⟩
theorem StX.sub (h : StX X B w x l ds aw K P) {X' : Nat → Prop} (k : ∀ i, X' i → X i) : StX X' B w x l ds aw K P := ⟨h.1, h.2.1, h.2.2.sub k⟩
theorem StX.more (h : StX X B w x l ds aw K P) {K' : Nat} (hk : K ≤ K') : StX X B w x l ds aw K' P := ⟨h.1, h.2.1, h.2.2.more hk⟩
theorem StX.lower (h : StX X B w x l ds aw K P) {B' : Nat} (hB : B' ≤ B) : StX X B' w x l ds aw K P := ⟨h.1, h.2.1, h.2.2.lower hB⟩
theorem StX.turnX (h : StX X B w x l ds aw K P) {X' : Nat → Prop} (t : Turn X w w') (hX : ∀ k, X' k → X k ∨ w.heap.size ≤ k) (hlt : ∀ k, X' k → k < w'.heap.size) (hB : B ≤ w.heap.size) : StX X' B w' x l ds aw K P := ⟨h.1, h.2.1, h.2.2.turnX t hX hlt hB⟩
theorem StX.lt (h : StX X B w x l ds aw K P) : (∀ k, X k → k < w.heap.size) ∧ B ≤ w.heap.size := h.2.2.lt
theorem StX.ge (h : StX X B w x l ds aw K P) : ∀ k, X k → B ≤ k := by
  obtain ⟨_, _, fp, F, bs, h⟩ := h
  exact fun k hk => h.ge k (h.xfp k hk)
theorem StX.below (h : StX X B w x l ds aw K P) (hb : Below w.heap.size w w') : StX X B w' x l ds aw K P := ⟨h.1, h.2.1, h.2.2.below hb⟩
theorem StX.old (h : StX X B w x l ds aw K P) (t : Turn (fun k => k < B) w w') : StX X B w' x l ds aw K P := ⟨h.1, h.2.1, h.2.2.old t⟩
theorem StX.release (h : StX X B w x l ds aw K P) (hq : ∀ w', w.heap.size ≤ w'.heap.size → (∀ k, X k → w'.heap[k]? = w.heap[k]?) → Q w') : St B w x l ds aw K (fun w => P w ∧ Q w) := ⟨h.1, h.2.1, h.2.2.release h.ge hq⟩
theorem StX.add (h : StX X B w x l ds aw K P) (hb : Below w.heap.size w w') (hq : New w.heap.size w' Q) : StX X B w' x l ds aw K (fun w => P w ∧ Q w) := ⟨h.1, h.2.1, h.2.2.add hb hq⟩
theorem StX.at_ (h : StX X B w x l ds aw K P) {i : Nat} (hi : i < x.n) : ∃ b f, w.cell? ⟨x.lb, i, none⟩ = some (.pointer (some ⟨b, 0, none⟩)) ∧ DevAt w b (ds i) f := h.2.2.at_ hi
theorem StX.away (h : StX X B w x l ds aw K P) {i : Nat} (hi : i < x.n) : w.cell? ⟨x.ab, i, none⟩ = some (.bool (aw i)) ∧ w.frozen? ⟨x.ab, i, none⟩ = false := h.2.2.away hi
theorem StX.did (h : StX X B w x l ds aw K P) {i : Nat} (hi : i < x.n) : ∃ b f, w.cell? ⟨x.lb, i, none⟩ = some (.pointer (some ⟨b, 0, none⟩)) ∧ DevAt w b (ds i) f ∧
    ∀ S' w' K', Did f b S' w w' → DGood x.sc K' S' → K ≤ K' → StX X B w' x l (upd ds i S') aw K' P ∧ Below B w w' ∧ w'.heap[x.lb]? = w.heap[x.lb]? ∧ ∀ k, X k → w'.heap[k]? = w.heap[k]? := by
  obtain ⟨b, f, h1, h2, h3⟩ := h.2.2.did hi
  refine ⟨b, f, h1, h2, fun S' w' K' hd hg hk => ?_⟩
  obtain ⟨h4, h5⟩ := h3 S' w' K' hd hg hk
  exact ⟨⟨h.1, h.2.1, h4⟩, h5⟩
theorem StX.mark (h : StX X B w x l ds aw K P) {i : Nat} (hi : i < x.n) (v : Bool) : StX X B (w.setCell ⟨x.ab, i, none⟩ (.bool v)) x l ds (upd aw i v) K P ∧ Below B w (w.setCell ⟨x.ab, i, none⟩ (.bool v)) ∧ ∀ k, X k → (w.setCell ⟨x.ab, i, none⟩ (.bool v)).heap[k]? = w.heap[k]? := by
  obtain ⟨h1, h2⟩ := h.2.2.mark hi v
  exact ⟨⟨h.1, h.2.1, h1⟩, h2⟩
end

/-- Block b is a set of the numbers S (a map of at most n entries). -/
def SMap (w : World) (b n : Nat) (S : List Nat) : Prop :=
  S.Nodup ∧ ∃ D : DataW Unit, w.ownsMap Tryz.prog 3 unitElem b n D ∧ Maps.size D = S.length ∧ ∀ k : Nat, k < 9223372036854775808 → has D (.int .i64 (k : Int)) = decide (k ∈ S)
theorem lawI : Keyed Tryz.prog 3 := int_keyed Tryz.underlying3
theorem SMap.made (w : World) : SMap (w.alloc (.map #[] 0)) w.heap.size 0 [] := ⟨List.nodup_nil, .map [], World.ownsMap_made w _ _ _, rfl, fun _ _ => rfl⟩
theorem SMap.same {w w' : World} {b n : Nat} {S : List Nat} (h : SMap w b n S) (hb : w'.heap[b]? = w.heap[b]?) : SMap w' b n S := by
  obtain ⟨h0, D, ⟨es, cl, h1, r⟩, h2⟩ := h
  exact ⟨h0, D, ⟨es, cl, hb.trans h1, r⟩, h2⟩
theorem SMap.lt {w : World} {b n : Nat} {S : List Nat} (h : SMap w b n S) : b < w.heap.size := by
  obtain ⟨_, D, h1, _⟩ := h
  exact h1.lt
theorem SMap.len {w : World} {b n : Nat} {S : List Nat} (h : SMap w b n S) (ty : TypeId) : (Builtin.len_ #[125] ty #[.map (some b)]).run Tryz.prog w = .ok (.int .i64 (S.length : Int)) w := by
  obtain ⟨_, D, h1, h2, _⟩ := h
  rw [← h2]
  exact h1.len Tryz.underlying125 ty
theorem SMap.le {w : World} {b n : Nat} {S : List Nat} (h : SMap w b n S) : S.length ≤ n := by
  obtain ⟨_, D, h1, h2, _⟩ := h
  rw [← h2]
  exact h1.size_le
def putN (S : List Nat) (k : Nat) : List Nat := if k ∈ S then S else S ++ [k]
theorem SMap.put {w : World} {b n : Nat} {S : List Nat} (h : SMap w b n S) (k : Nat) (hk : k < 9223372036854775808) (hn : n < maxLen) :
    ∃ w', (Instr.mapUpdate 125 (.map (some b)) (.int .i64 (k : Int)) (.agg #[])).run Tryz.prog w = .ok () w' ∧ SMap w' b (n + 1) (putN S k) ∧ w.mapTurned w' b := by
  obtain ⟨h0, D, h1, h2, h3⟩ := h
  have hwf : ∀ j : Nat, j < 9223372036854775808 → (Lit.int .i64 (j : Int)).wf = true := fun j hj => WalkArith.wf_i64 (by omega)
  have hkey := keyOf_int_mk (P := Tryz.prog) Tryz.underlying3 (hwf k hk)
  have hik : WideAt.IsKeyLit (.int .i64 (k : Int)) := lawI.key hkey
  obtain ⟨w', hr, h4, h5⟩ := h1.store lawI Tryz.underlying125 hn hkey unitElem_mk
  refine ⟨w', hr, ⟨?_, _, h4, ?_, fun j hj => ?_⟩, h5⟩
  · unfold putN
    split
    · exact h0
    · rename_i hm
      exact List.nodup_append.2 ⟨h0, by simp, fun a ha b hb => by rw [List.mem_singleton.1 hb]; intro e; exact hm (e ▸ ha)⟩
  · rw [Maps.size_put (h1.tidy lawI), h3 k hk, h2]
    unfold putN
    by_cases hm : k ∈ S
    · simp [hm]
    · simp [hm]
  · by_cases e : j = k
    · subst e
      rw [has_put_same h1.isMap hik]
      unfold putN
      split <;> simp [*]
    · rw [has_put_other (by intro h; apply e; cases h; rfl), h3 j hj]
      unfold putN
      split <;> simp [e]
end Go.Proofs.YtiffkbmcikiioaaGreat
