/-
  A range over a function whose iterator keeps its place in cells of its own: a law for the statement, and the contract that such an iterator is to meet. No program is named here.
  The law for a range over a function once more: what is handed out is several values.
-/
import Derived.RangeFuncCalls
import Derived.RangeFuncLeaves
import Derived.RangeFuncBound
import Derived.Below

/- A range over a function whose iterator keeps its place in cells of its own: a law for the statement, and the contract that such an iterator is to meet. No program is named here. -/
namespace Go.Proofs.YtiffkbmcikiioaaGreat
set_option maxRecDepth 100000
open Go.RowKit

/-- From block B on, all that lay lies as it lay. -/
structure Since (B : Nat) (W W' : World) : Prop where
  size : W.heap.size ≤ W'.heap.size
  same : ∀ k, B ≤ k → k < W.heap.size → W'.heap[k]? = W.heap[k]?

theorem Since.refl (B : Nat) (W : World) : Since B W W := ⟨Nat.le_refl _, fun _ _ _ => rfl⟩
theorem Since.trans {B : Nat} {X Y Z : World} (h : Since B X Y) (g : Since B Y Z) : Since B X Z :=
  ⟨Nat.le_trans h.size g.size, fun k hk hx => (g.same k hk (Nat.lt_of_lt_of_le hx h.size)).trans (h.same k hk hx)⟩
theorem Since.mono {B C : Nat} {X Y : World} (h : Since B X Y) (hBC : B ≤ C) : Since C X Y := ⟨h.size, fun k hk hx => h.same k (Nat.le_trans hBC hk) hx⟩
theorem Since.alloc {B : Nat} {X Y : World} (h : Since B X Y) (o : Obj) : Since B X (Y.alloc o) :=
  h.trans ⟨by simp, fun k _ hk => Below.heap_alloc Y o k hk⟩
theorem Since.setCell {B : Nat} {X Y : World} (h : Since B X Y) {p : Addr} (hp : p.block < B) (v : Value) : Since B X (Y.setCell p v) :=
  h.trans ⟨by simp [World.setCell], fun k hk _ => Below.heap_setCell _ _ _ _ (by omega)⟩
theorem Since.drew {B : Nat} {X Y : World} (h : Since B X Y) : Since B X Y.drew := ⟨h.size, h.same⟩
theorem Since.putObj {B : Nat} {X Y : World} (h : Since B X Y) {l : Nat} (hl : l < B) (o : Obj) : Since B X (Y.putObj l o) :=
  h.trans ⟨by simp, fun k hk _ => World.putObj_heap_other (by omega)⟩
/-- What only made memory keeps all. -/
theorem Since.of_below {B : Nat} {X Y : World} (h : Below X.heap.size X Y) : Since B X Y := ⟨h.size, fun k _ hk => h.block k hk⟩
theorem Since.cell {B : Nat} {X Y : World} (h : Since B X Y) {p : Addr} (h1 : B ≤ p.block) (h2 : p.block < X.heap.size) : Y.cell? p = X.cell? p :=
  World.cell?_of_block (w := X) (h.same p.block h1 h2)
theorem Since.frozen {B : Nat} {X Y : World} (h : Since B X Y) {p : Addr} (h1 : B ≤ p.block) (h2 : p.block < X.heap.size) : Y.frozen? p = X.frozen? p :=
  World.frozen?_of_block (w := X) (h.same p.block h1 h2)
theorem below_putObj {B : Nat} {X Y : World} (h : Below B X Y) {l : Nat} (hl : B ≤ l) (o : Obj) : Below B X (Y.putObj l o) :=
  h.trans ⟨rfl, rfl, rfl, by simp, fun k hk => World.putObj_heap_other (by omega)⟩

/-- What is said of a world by what lies below block B. -/
def Stands (B : Nat) (I : Nat → World → Prop) : Prop := ∀ k X Y, I k X → Below B X Y → I k Y

theorem Stands.mono {B C : Nat} {I : Nat → World → Prop} (h : Stands B I) (hBC : B ≤ C) : Stands C I := fun k X Y hk hb => h k X Y hk (hb.mono hBC)
theorem Stands.putObj {B : Nat} {I : Nat → World → Prop} (h : Stands B I) {k l : Nat} {X : World} (hk : I k X) (hl : B ≤ l) (o : Obj) : I k (X.putObj l o) :=
  h k X _ hk (below_putObj (Below.refl _ _) hl o)

/-- The iterator hands out just xs, one by one, however the rounds go on; what the rounds have made stands through its own steps, and it leans on this alone, that a round leaves the blocks that it made itself. -/
def Hands {α : Type} (F : Fence) (n : Nat) (P : Program) (g : Nat) (lb : Array Value) (enc : α → Value) (xs : List α) (w : World) : Prop :=
  ∀ (l : Nat) (J Jx : Nat → World → Prop) (W : World), Below w.heap.size w W → Stands W.heap.size J → Stands W.heap.size Jx →
    (∀ k x W1, xs[k]? = some x → J k W1 → YieldAt F (n - 1) P l #[enc x] W1 fun e W' =>
      (e = .returned (.bool true) ∧ J (k + 1) W' ∧ Since W.heap.size W1 W') ∨ (e = .returned (.bool false) ∧ Jx (k + 1) W')) →
    J 0 W →
    CallsIn F n P g (#[.func (.yield l) #[] #[]] ++ lb) W fun e W' => (∃ v, e = .returned v) ∧ (J xs.length W' ∨ ∃ k, k ≤ xs.length ∧ Jx k W')

/-- How a round's body may be left. -/
def leftBy (B : Nat) (I : Nat → World → Prop) (Ix : Code → Nat → World → Prop) (k : Nat) (W : World) : Exit → Act → World → Prop
  | .normal, _, W' => Since B W W' ∧ I k W'
  | .ret, _, W' => Since B W W' ∧ Ix .ret k W'
  | .exit id, _, W' => Since B W W' ∧ Ix (.exit id) k W'
  | .goto t, _, W' => Since B W W' ∧ Ix (.goto t) k W'
  | .panic _, _, _ => False
  | .outgrown, _, _ => False

section
variable {F : Fence} {n : Nat} {P : Program}

/-- The statement: its own body once, from I to 'leftBy'; what follows where all have come, and where a round has left. -/
theorem wpIn_range_hands {α : Type} {g : Operand} {ps : Array Tmp} {assign body : Code} {Q : Exit → Act → World → Prop} {a : Act} {w : World}
    (hro : F.round = none) (h1 : 1 ≤ n) {gf : Nat} {lb : Array Value} (hg : a.eval g = .func (.func gf) #[] lb) (hFg : F.fn gf) (eg : ∀ args w, (callFunc gf args).run P w = .ok (.enter gf args) w)
    {enc : α → Value} {xs : List α} {w0 : World} (hseq : Hands F (n - 1) P gf lb enc xs w0) (hb0 : Below w0.heap.size w0 w) (hps : ps.size = 1)
    (I : Nat → World → Prop) (Ix : Code → Nat → World → Prop) (hI : Stands w.heap.size I) (hIx : ∀ c, Stands w.heap.size (Ix c)) (h0 : I 0 w) (a₁ : α → Act)
    (hassign : ∀ (l : Nat) (x : α) (W : World) (K : Act → World → Prop), K (a₁ x) W →
      assign.wpIn (F.inRound l) (n - 1 - 1) P (Exit.then K (fun _ _ _ => False)) { tmps := (ps.zip #[enc x]).foldl (fun t (p, v) => t.setIfInBounds p v) a.tmps, defers := [] } W)
    (hbody : ∀ (l k : Nat) (x : α) (W : World), xs[k]? = some x → I k W → body.wpIn (F.inRound l) (n - 1 - 1) P (leftBy w.heap.size I Ix (k + 1) W) (a₁ x) W)
    (hdone : ∀ (D : Nat) (W : World), w.heap.size ≤ D → I xs.length W → W.heap[D]? = some (.deferred (some [])) → Q .normal { a with defers := { target := .collected D, args := #[] } :: a.defers } W)
    (hstop : ∀ (D : Nat) (c : Code) (k : Nat) (W : World), w.heap.size ≤ D → k ≤ xs.length → Ix c k W → W.heap[D]? = some (.deferred (some [])) → c.wpIn F n P Q { a with defers := { target := .collected D, args := #[] } :: a.defers } W) :
    (Code.rangeFunc g ps assign body).wpIn F n P Q a w := by
  refine wpIn_rangeFunc fun fn hfn => ?_
  rw [hro]
  obtain ⟨R, hR⟩ : ∃ R : LoopState → Option Code → Loop, R = fun st pe => { state := st, pending := pe, fn, tmps := a.tmps, params := ps, assign, body, defers := w.heap.size } := ⟨_, rfl⟩
  obtain ⟨V, hV⟩ : ∃ V, (w.alloc (.deferred (some []))).alloc (.loop (R .ready none)) = V := ⟨_, rfl⟩
  have hVs : V.heap.size = w.heap.size + 2 := by rw [← hV]; simp
  have hVl : V.heap[w.heap.size + 1]? = some (.loop (R .ready none)) := by
    have := World.alloc_heap_new (w.alloc (.deferred (some []))) (.loop (R .ready none))
    rw [World.size_alloc] at this
    rw [← hV]; exact this
  have hVd : V.heap[w.heap.size]? = some (.deferred (some [])) := by
    rw [← hV]; exact (Below.heap_alloc _ _ _ (by simp)).trans (World.alloc_heap_new w _)
  have hVb : Below w.heap.size w V := by rw [← hV]; exact ((Below.refl _ w).alloc (Nat.le_refl _) _).alloc (by simp) _
  refine ⟨w.heap.size + 1, [{ target := .collected w.heap.size, args := #[] }], V, { target := .fn (.func gf) lb, args := #[.func (.yield (w.heap.size + 1)) #[] #[]] }, V, gf,
    #[.func (.yield (w.heap.size + 1)) #[] #[]] ++ lb, V, ?_, ?_, ?_, ?_, fun _ => h1, ?_⟩
  · rw [← hV, hR]; exact run_enterLoop_outer _ _ _ _ _
  · simp only [resolve, hg]
    simp [go_sem]
  · intro f' hf'; simp [Target.leads] at hf'; subst hf'; exact hFg
  · simp [invoke, go_sem, eg]
  · refine (hseq (w.heap.size + 1)
      (fun k W => I k W ∧ W.heap[w.heap.size + 1]? = some (.loop (R .ready none)) ∧ W.heap[w.heap.size]? = some (.deferred (some [])))
      (fun k W => ∃ c, Ix c k W ∧ W.heap[w.heap.size + 1]? = some (.loop (R .done (some c))) ∧ W.heap[w.heap.size]? = some (.deferred (some [])))
      V (hb0.trans (hVb.mono hb0.size)) ?_ ?_ ?_ ⟨hI 0 w V h0 hVb, hVl, hVd⟩).mono ?_
    · rintro k X Y ⟨i, r, d⟩ hb
      exact ⟨hI k X Y i (hb.mono (by omega)), (hb.block _ (by omega)).trans r, (hb.block _ (by omega)).trans d⟩
    · rintro k X Y ⟨c, i, r, d⟩ hb
      exact ⟨c, hIx c k X Y i (hb.mono (by omega)), (hb.block _ (by omega)).trans r, (hb.block _ (by omega)).trans d⟩
    · -- one round
      rintro k x W hx ⟨hi, hr, hd⟩
      have hlt : w.heap.size + 1 < W.heap.size := (Array.getElem?_eq_some_iff.1 hr).1
      have hy := run_yield (P := P) (args := #[enc x]) hr (by rw [hR]; simp [hps])
      rw [hR] at hy
      obtain ⟨U, hU⟩ : ∃ U, W.putObj (w.heap.size + 1) (.loop { R .ready none with state := .busy }) = U := ⟨_, rfl⟩
      have hUr : U.heap[w.heap.size + 1]? = some (.loop { R .ready none with state := .busy }) := by rw [← hU]; exact World.putObj_heap_same hlt
      have hUd : U.heap[w.heap.size]? = some (.deferred (some [])) := by rw [← hU]; exact (World.putObj_heap_other (by omega)).trans hd
      have hUs : U.heap.size = W.heap.size := by rw [← hU]; simp
      have hUW : Since V.heap.size W U := by rw [← hU]; exact (Since.refl _ _).putObj (by omega) _
      refine ⟨fn, _, assign, body, hy, roundIn_of_wpIn hfn (hassign _ x W _ ⟨U, by rw [← hU]; exact run_beginRound hr (by rw [hR]), ?_⟩)⟩
      refine wpIn_mono (hbody _ k x U hx (by rw [← hU]; exact hI.putObj hi (by omega) _)) ?_
      have fin : ∀ (jump : Option Code) (X : World), Since w.heap.size U X → ∃ Y, (Instr.endRound (w.heap.size + 1) jump).run P X = .ok (.bool jump.isNone) Y ∧
          Y = X.putObj (w.heap.size + 1) (.loop (R (if jump.isNone then .ready else .done) jump)) ∧ Y.heap[w.heap.size + 1]? = some (.loop (R (if jump.isNone then .ready else .done) jump)) ∧ Y.heap[w.heap.size]? = some (.deferred (some [])) ∧ Since V.heap.size W Y := by
        intro jump X hs
        have hXr := (hs.same (w.heap.size + 1) (by omega) (by omega)).trans hUr
        have hXd := (hs.same w.heap.size (by omega) (by omega)).trans hUd
        have he := run_endRound (P := P) jump hXr
        refine ⟨_, he, by rw [hR], ?_, (World.putObj_heap_other (by omega)).trans hXd, ?_⟩
        · rw [World.putObj_heap_same (Array.getElem?_eq_some_iff.1 hXr).1, hR]
        · exact (hUW.trans (hs.mono (by omega))).putObj (by omega) _
      rintro e a3 X hp
      cases e with
      | normal =>
        obtain ⟨hs, i⟩ := hp
        obtain ⟨Y, he, hY, h2, h3, h4⟩ := fin none X hs
        exact ⟨_, Y, he, .inl ⟨rfl, ⟨by rw [hY]; exact hI.putObj i (by omega) _, h2, h3⟩, h4⟩⟩
      | ret =>
        obtain ⟨hs, i⟩ := hp
        obtain ⟨Y, he, hY, h2, h3, h4⟩ := fin (some .ret) X hs
        exact ⟨_, Y, he, .inr ⟨rfl, .ret, by rw [hY]; exact (hIx _).putObj i (by omega) _, h2, h3⟩⟩
      | exit id =>
        obtain ⟨hs, i⟩ := hp
        obtain ⟨Y, he, hY, h2, h3, h4⟩ := fin (some (.exit id)) X hs
        exact ⟨_, Y, he, .inr ⟨rfl, .exit id, by rw [hY]; exact (hIx _).putObj i (by omega) _, h2, h3⟩⟩
      | goto t =>
        obtain ⟨hs, i⟩ := hp
        obtain ⟨Y, he, hY, h2, h3, h4⟩ := fin (some (.goto t)) X hs
        exact ⟨_, Y, he, .inr ⟨rfl, .goto t, by rw [hY]; exact (hIx _).putObj i (by omega) _, h2, h3⟩⟩
      | panic ch => exact hp.elim
      | outgrown => exact hp.elim
    · -- behind the iterator
      rintro e X ⟨⟨v, rfl⟩, (⟨i, hr, hd⟩ | ⟨k, hk, c, i, hr, hd⟩)⟩
      · refine ⟨none, _, by have := run_endLoop (P := P) hr (by rw [hR]; simp); rw [hR] at this; exact this, ?_⟩
        exact hdone _ _ (Nat.le_refl _) (hI.putObj i (by omega) _) ((World.putObj_heap_other (by omega)).trans hd)
      · refine ⟨some c, _, by have := run_endLoop (P := P) hr (by rw [hR]; simp); rw [hR] at this; exact this, ?_⟩
        exact hstop _ c k _ (Nat.le_refl _) hk ((hIx c).putObj i (by omega) _) ((World.putObj_heap_other (by omega)).trans hd)
end
end Go.Proofs.YtiffkbmcikiioaaGreat

/- The law for a range over a function once more: what is handed out is several values. -/
namespace Go.Proofs.YtiffkbmcikiioaaGreat
set_option maxRecDepth 100000
open Go.RowKit

/-- The iterator hands out just xs, one by one; it leans on what lay from block B on in w, which the rounds leave. -/
def HandsS {α : Type} (F : Fence) (n : Nat) (P : Program) (g : Nat) (lb : Array Value) (enc : α → Array Value) (xs : List α) (B : Nat) (w : World) : Prop :=
  ∀ (l : Nat) (J Jx : Nat → World → Prop) (W : World), Since B w W → Stands W.heap.size J → Stands W.heap.size Jx → (∀ k X, J k X → Since B w X) →
    (∀ k x W1, xs[k]? = some x → J k W1 → YieldAt F (n - 1) P l (enc x) W1 fun e W' =>
      (e = .returned (.bool true) ∧ J (k + 1) W' ∧ Since W.heap.size W1 W') ∨ (e = .returned (.bool false) ∧ Jx (k + 1) W')) →
    J 0 W →
    CallsIn F n P g (#[.func (.yield l) #[] #[]] ++ lb) W fun e W' => (∃ v, e = .returned v) ∧ (J xs.length W' ∨ ∃ k, k ≤ xs.length ∧ Jx k W')

section
variable {F : Fence} {n : Nat} {P : Program}

/-- The statement: its own body once, from I to 'leftBy'; what follows where all have come, and where a round has left. -/
theorem wpIn_range_handsS {α : Type} {g : Operand} {ps : Array Tmp} {assign body : Code} {Q : Exit → Act → World → Prop} {a : Act} {w : World}
    (hro : F.round = none) (h1 : 1 ≤ n) {gf : Nat} {lb : Array Value} (hg : a.eval g = .func (.func gf) #[] lb) (hFg : F.fn gf) (eg : ∀ args w, (callFunc gf args).run P w = .ok (.enter gf args) w)
    {enc : α → Array Value} {xs : List α} {w0 : World} {B : Nat} (hseq : HandsS F (n - 1) P gf lb enc xs B w0) (hb0 : Since B w0 w) (hps : ∀ x, (enc x).size = ps.size)
    (I : Nat → World → Prop) (Ix : Code → Nat → World → Prop) (hI : Stands w.heap.size I) (hIx : ∀ c, Stands w.heap.size (Ix c)) (hIK : ∀ k X, I k X → Since B w0 X) (h0 : I 0 w) (a₁ : α → Act)
    (hassign : ∀ (l : Nat) (x : α) (W : World) (K : Act → World → Prop), K (a₁ x) W →
      assign.wpIn (F.inRound l) (n - 1 - 1) P (Exit.then K (fun _ _ _ => False)) { tmps := (ps.zip (enc x)).foldl (fun t (p, v) => t.setIfInBounds p v) a.tmps, defers := [] } W)
    (hbody : ∀ (l k : Nat) (x : α) (W : World), xs[k]? = some x → I k W → body.wpIn (F.inRound l) (n - 1 - 1) P (leftBy w.heap.size I Ix (k + 1) W) (a₁ x) W)
    (hdone : ∀ (D : Nat) (W : World), w.heap.size ≤ D → I xs.length W → W.heap[D]? = some (.deferred (some [])) → Q .normal { a with defers := { target := .collected D, args := #[] } :: a.defers } W)
    (hstop : ∀ (D : Nat) (c : Code) (k : Nat) (W : World), w.heap.size ≤ D → k ≤ xs.length → Ix c k W → W.heap[D]? = some (.deferred (some [])) → c.wpIn F n P Q { a with defers := { target := .collected D, args := #[] } :: a.defers } W) :
    (Code.rangeFunc g ps assign body).wpIn F n P Q a w := by
  refine wpIn_rangeFunc fun fn hfn => ?_
  rw [hro]
  obtain ⟨R, hR⟩ : ∃ R : LoopState → Option Code → Loop, R = fun st pe => { state := st, pending := pe, fn, tmps := a.tmps, params := ps, assign, body, defers := w.heap.size } := ⟨_, rfl⟩
  obtain ⟨V, hV⟩ : ∃ V, (w.alloc (.deferred (some []))).alloc (.loop (R .ready none)) = V := ⟨_, rfl⟩
  have hVs : V.heap.size = w.heap.size + 2 := by rw [← hV]; simp
  have hVl : V.heap[w.heap.size + 1]? = some (.loop (R .ready none)) := by
    have := World.alloc_heap_new (w.alloc (.deferred (some []))) (.loop (R .ready none))
    rw [World.size_alloc] at this
    rw [← hV]; exact this
  have hVd : V.heap[w.heap.size]? = some (.deferred (some [])) := by
    rw [← hV]; exact (Below.heap_alloc _ _ _ (by simp)).trans (World.alloc_heap_new w _)
  have hVb : Below w.heap.size w V := by rw [← hV]; exact ((Below.refl _ w).alloc (Nat.le_refl _) _).alloc (by simp) _
  refine ⟨w.heap.size + 1, [{ target := .collected w.heap.size, args := #[] }], V, { target := .fn (.func gf) lb, args := #[.func (.yield (w.heap.size + 1)) #[] #[]] }, V, gf,
    #[.func (.yield (w.heap.size + 1)) #[] #[]] ++ lb, V, ?_, ?_, ?_, ?_, fun _ => h1, ?_⟩
  · rw [← hV, hR]; exact run_enterLoop_outer _ _ _ _ _
  · simp only [resolve, hg]
    simp [go_sem]
  · intro f' hf'; simp [Target.leads] at hf'; subst hf'; exact hFg
  · simp [invoke, go_sem, eg]
  · refine (hseq (w.heap.size + 1)
      (fun k W => I k W ∧ W.heap[w.heap.size + 1]? = some (.loop (R .ready none)) ∧ W.heap[w.heap.size]? = some (.deferred (some [])))
      (fun k W => ∃ c, Ix c k W ∧ W.heap[w.heap.size + 1]? = some (.loop (R .done (some c))) ∧ W.heap[w.heap.size]? = some (.deferred (some [])))
      V (hb0.trans (Since.of_below hVb)) ?_ ?_ (fun k X hX => hIK k X hX.1) ?_ ⟨hI 0 w V h0 hVb, hVl, hVd⟩).mono ?_
    · rintro k X Y ⟨i, r, d⟩ hb
      exact ⟨hI k X Y i (hb.mono (by omega)), (hb.block _ (by omega)).trans r, (hb.block _ (by omega)).trans d⟩
    · rintro k X Y ⟨c, i, r, d⟩ hb
      exact ⟨c, hIx c k X Y i (hb.mono (by omega)), (hb.block _ (by omega)).trans r, (hb.block _ (by omega)).trans d⟩
    · -- one round
      rintro k x W hx ⟨hi, hr, hd⟩
      have hlt : w.heap.size + 1 < W.heap.size := (Array.getElem?_eq_some_iff.1 hr).1
      have hy := run_yield (P := P) (args := (enc x)) hr (by rw [hR]; simp [hps x])
      rw [hR] at hy
      obtain ⟨U, hU⟩ : ∃ U, W.putObj (w.heap.size + 1) (.loop { R .ready none with state := .busy }) = U := ⟨_, rfl⟩
      have hUr : U.heap[w.heap.size + 1]? = some (.loop { R .ready none with state := .busy }) := by rw [← hU]; exact World.putObj_heap_same hlt
      have hUd : U.heap[w.heap.size]? = some (.deferred (some [])) := by rw [← hU]; exact (World.putObj_heap_other (by omega)).trans hd
      have hUs : U.heap.size = W.heap.size := by rw [← hU]; simp
      have hUW : Since V.heap.size W U := by rw [← hU]; exact (Since.refl _ _).putObj (by omega) _
      refine ⟨fn, _, assign, body, hy, roundIn_of_wpIn hfn (hassign _ x W _ ⟨U, by rw [← hU]; exact run_beginRound hr (by rw [hR]), ?_⟩)⟩
      refine wpIn_mono (hbody _ k x U hx (by rw [← hU]; exact hI.putObj hi (by omega) _)) ?_
      have fin : ∀ (jump : Option Code) (X : World), Since w.heap.size U X → ∃ Y, (Instr.endRound (w.heap.size + 1) jump).run P X = .ok (.bool jump.isNone) Y ∧
          Y = X.putObj (w.heap.size + 1) (.loop (R (if jump.isNone then .ready else .done) jump)) ∧ Y.heap[w.heap.size + 1]? = some (.loop (R (if jump.isNone then .ready else .done) jump)) ∧ Y.heap[w.heap.size]? = some (.deferred (some [])) ∧ Since V.heap.size W Y := by
        intro jump X hs
        have hXr := (hs.same (w.heap.size + 1) (by omega) (by omega)).trans hUr
        have hXd := (hs.same w.heap.size (by omega) (by omega)).trans hUd
        have he := run_endRound (P := P) jump hXr
        refine ⟨_, he, by rw [hR], ?_, (World.putObj_heap_other (by omega)).trans hXd, ?_⟩
        · rw [World.putObj_heap_same (Array.getElem?_eq_some_iff.1 hXr).1, hR]
        · exact (hUW.trans (hs.mono (by omega))).putObj (by omega) _
      rintro e a3 X hp
      cases e with
      | normal =>
        obtain ⟨hs, i⟩ := hp
        obtain ⟨Y, he, hY, h2, h3, h4⟩ := fin none X hs
        exact ⟨_, Y, he, .inl ⟨rfl, ⟨by rw [hY]; exact hI.putObj i (by omega) _, h2, h3⟩, h4⟩⟩
      | ret =>
        obtain ⟨hs, i⟩ := hp
        obtain ⟨Y, he, hY, h2, h3, h4⟩ := fin (some .ret) X hs
        exact ⟨_, Y, he, .inr ⟨rfl, .ret, by rw [hY]; exact (hIx _).putObj i (by omega) _, h2, h3⟩⟩
      | exit id =>
        obtain ⟨hs, i⟩ := hp
        obtain ⟨Y, he, hY, h2, h3, h4⟩ := fin (some (.exit id)) X hs
        exact ⟨_, Y, he, .inr ⟨rfl, .exit id, by rw [hY]; exact (hIx _).putObj i (by omega) _, h2, h3⟩⟩
      | goto t =>
        obtain ⟨hs, i⟩ := hp
        obtain ⟨Y, he, hY, h2, h3, h4⟩ := fin (some (.goto t)) X hs
        exact ⟨_, Y, he, .inr ⟨rfl, .goto t, by rw [hY]; exact (hIx _).putObj i (by omega) _, h2, h3⟩⟩
      | panic ch => exact hp.elim
      | outgrown => exact hp.elim
    · -- behind the iterator
      rintro e X ⟨⟨v, rfl⟩, (⟨i, hr, hd⟩ | ⟨k, hk, c, i, hr, hd⟩)⟩
      · refine ⟨none, _, by have := run_endLoop (P := P) hr (by rw [hR]; simp); rw [hR] at this; exact this, ?_⟩
        exact hdone _ _ (Nat.le_refl _) (hI.putObj i (by omega) _) ((World.putObj_heap_other (by omega)).trans hd)
      · refine ⟨some c, _, by have := run_endLoop (P := P) hr (by rw [hR]; simp); rw [hR] at this; exact this, ?_⟩
        exact hstop _ c k _ (Nat.le_refl _) hk ((hIx c).putObj i (by omega) _) ((World.putObj_heap_other (by omega)).trans hd)
end
end Go.Proofs.YtiffkbmcikiioaaGreat
