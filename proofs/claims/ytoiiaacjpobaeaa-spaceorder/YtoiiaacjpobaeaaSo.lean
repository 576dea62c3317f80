/-
  Own slices of calls; what was taken, in any order.
-/
import Derived.Test.YtoiiaacjpobaeaaSl
namespace Go.Proofs.Ytoiiaacjpobaeaa
set_option maxRecDepth 100000
open Go.RowKit

def ActV.cells (x : ActV) : List Value := [.int .u8 x.d, .int .i64 x.a, .int .i64 x.n]
def flatA (l : List ActV) : List Value := l.flatMap ActV.cells
theorem flatA_len (l : List ActV) : (flatA l).length = l.length * 3 := by
  induction l with
  | nil => rfl
  | cons c r ih => simp only [flatA, List.flatMap_cons, List.length_append, List.length_cons] at ih ⊢; rw [ih]; simp [ActV.cells]; omega
theorem flatA_app (l m : List ActV) : flatA (l ++ m) = flatA l ++ flatA m := by simp [flatA]
theorem flatA_at (l : List ActV) (i : Nat) (hi : i < l.length) (j : Nat) (hj : j < 3) : (flatA l)[i * 3 + j]? = (ActV.cells l[i])[j]? := by
  induction l generalizing i with
  | nil => simp at hi
  | cons s r ih =>
    cases i with
    | zero =>
      simp only [flatA, List.flatMap_cons, List.getElem_cons_zero, Nat.zero_mul, Nat.zero_add]
      rw [List.getElem?_append_left (by simp [ActV.cells]; omega)]
    | succ i =>
      simp only [flatA, List.flatMap_cons, List.getElem_cons_succ]
      rw [List.getElem?_append_right (by simp [ActV.cells]; omega), show (ActV.cells s).length = 3 from rfl, show (i + 1) * 3 + j - 3 = i * 3 + j by omega]
      exact ih i (by simpa using hi)
theorem flatA_one (l : List ActV) : ∀ v ∈ flatA l, v.oneCell' = true := by
  intro v hv
  obtain ⟨s, _, h⟩ := List.mem_flatMap.1 hv
  simp [ActV.cells] at h
  rcases h with rfl | rfl | rfl <;> rfl
/-- The slice v is the call's own, from block B on, and it is the calls l. -/
def OwnA (B : Nat) (w : World) (v : Value) (l : List ActV) : Prop := w.ownsRow B 29 3 v l.length (flatA l)
theorem OwnA.nil (B : Nat) (w : World) : OwnA B w (.slice none 0 0) [] := World.ownsRow_nil _ _ _ _
theorem OwnA.of {B : Nat} {w w' : World} {v : Value} {l : List ActV} (h : OwnA B w v l) (e : ∀ k, v.ownBlock = some k → w'.heap[k]? = w.heap[k]?) : OwnA B w' v l := by
  refine ⟨h.1, ?_⟩
  rcases h.2 with hn | ⟨g, cap, cur, rfl, hB, hg, rest⟩
  · exact .inl hn
  · exact .inr ⟨g, cap, cur, rfl, hB, by rw [e g rfl]; exact hg, rest⟩
theorem OwnA.lt {B : Nat} {w : World} {v : Value} {l : List ActV} (h : OwnA B w v l) {k : Nat} (hk : v.ownBlock = some k) : k < w.heap.size := (World.ownsRow.lt h k hk).2
theorem OwnA.below {B : Nat} {w w' : World} {v : Value} {l : List ActV} (h : OwnA B w v l) (hb : Below w.heap.size w w') : OwnA B w' v l := h.of fun k hk => hb.block k (h.lt hk)
theorem OwnA.keep {B B' : Nat} {w w' : World} {v : Value} {l : List ActV} (h : OwnA B w v l) (hk : KeptX B' (ownX v) w w') : OwnA B w' v l := h.of fun k hk' => hk.kept k hk'
theorem OwnA.isSl {w : World} {B : Nat} {v : Value} {l : List ActV} (h : OwnA B w v l) : ∃ a c, v = .slice a l.length c := by
  rcases h.2 with ⟨rfl, h0⟩ | ⟨g, cap, cur, rfl, hB, hb, hnc, _⟩
  · exact ⟨_, _, by rw [h0]⟩
  · exact ⟨_, _, rfl⟩
theorem OwnA.at_ {w : World} {B : Nat} {v : Value} {l : List ActV} (h : OwnA B w v l) (hl : 0 < l.length) :
    ∃ g c, v = .slice (some ⟨g, 0, none⟩) l.length c ∧ g < w.heap.size ∧ ∀ j (h : j < l.length), w.cell? ⟨g, j * 3, none⟩ = some (.int .u8 l[j].d) ∧ w.cell? ⟨g, j * 3 + 1, none⟩ = some (.int .i64 l[j].a) ∧ w.cell? ⟨g, j * 3 + 2, none⟩ = some (.int .i64 l[j].n) := by
  have hcells := fun g hg => World.ownsRow.cells (g := g) h hg
  rcases h.2 with ⟨_, h0⟩ | ⟨g, cap, cur, rfl, hB, hb, hnc, _⟩
  · omega
  · refine ⟨g, cap, rfl, (Array.getElem?_eq_some_iff.1 hb).1, fun j hj => ?_⟩
    have e : ∀ i u, i < 3 → (ActV.cells l[j])[i]? = some u → w.cell? ⟨g, j * 3 + i, none⟩ = some u := fun i u hi hu => by
      have e := hcells g rfl (j * 3 + i) u ((flatA_at l j hj i hi).trans hu)
      rwa [add_plain', Nat.zero_add] at e
    exact ⟨e 0 _ (by decide) rfl, e 1 _ (by decide) rfl, e 2 _ (by decide) rfl⟩
theorem info_act : ∃ i, Try.prog.info? 29 = some i ∧ i.zero = some (.agg #[.int .u8 0, .int .i64 0, .int .i64 0]) ∧ i.size = 3 ∧ i.bytes = 24 := info_parts (by kernel_rfl)
/-- append(v, x). -/
theorem wpList_append_act {ops : Array Oper} {rest : List Oper} {o : Oper} {a : Act} {Q : Exit → Act → World → Prop} (w : World) (hgd : o.guard = none) (s x : Operand)
    (ho : o.op = .call { callee := .builtin .append, args := #[s, x], argTypes := #[22, 22] }) (B : Nat) (v : Value) (l : List ActV) (y : ActV) (g c' : Nat) (hs : a.eval s = v) (hx : a.eval x = .slice (some ⟨g, 0, none⟩) 1 c')
    (hv : OwnA B w v l) (hc0 : w.cell? ⟨g, 0, none⟩ = some (.int .u8 y.d)) (hc1 : w.cell? ⟨g, 1, none⟩ = some (.int .i64 y.a)) (hc2 : w.cell? ⟨g, 2, none⟩ = some (.int .i64 y.n)) (hB : B ≤ w.heap.size) (hN : l.length ≤ 100000)
    (h : ∀ v' w', OwnA B w' v' (l ++ [y]) → w.grownBy w' v.ownBlock → wpList Try.prog ops Q rest (a.put o.dst v') w') : wpList Try.prog ops Q (o :: rest) a w := by
  obtain ⟨i, hi, hz, hsz, hb⟩ := info_act
  refine wpList_append_own_at w hgd s x _ ho B 29 i _ 3 24 Try.underlying22 hi hz hsz hb rfl (by decide) v l.length (flatA l) hs hv ⟨g, 0, none⟩ 1 c' (ActV.cells y) hx rfl (fun j u hj => ?_) (fun u hu => ?_) (by unfold maxLen; omega) (by omega) hB fun v' w' h1 h2 _ _ => ?_
  · have hlt : j < 3 := (List.getElem?_eq_some_iff.1 hj).1
    rw [add_plain', ← hj, Nat.zero_add]
    match j, hlt with
    | 0, _ => exact hc0
    | 1, _ => exact hc1
    | 2, _ => exact hc2
  · exact flatA_one [y] u (by simpa [flatA] using hu)
  · refine h v' w' ?_ h2
    unfold OwnA
    rw [List.length_append, flatA_app]
    have e : flatA [y] = ActV.cells y := by simp [flatA]
    rw [e]
    exact h1
/-- A map is apart from a slice of calls: their blocks hold unlike things. -/
theorem MapIn.apartA {B C : Nat} {x : Nat → Prop} {w : World} {b : Nat} {z : Int} {l : List (Int × Int)} {v : Value} {T : List ActV} (h : MapIn B x w b z l) (hO : OwnA C w v T) : MapIn B (ownX v) w b z l := by
  obtain ⟨u, h⟩ := h
  rcases hO.2 with ⟨rfl, _⟩ | ⟨g, cap, cur, rfl, hB, hg, _⟩
  · exact ⟨u, h.mv, h.hB, (fun e => by cases e), fun j hj => ⟨(h.hv j hj).1, fun e => by cases e⟩, fun j e => by cases e⟩
  · have key : ∀ j, ownX (.slice (some ⟨g, 0, none⟩) T.length cap) j → j = g := fun j e => by
      have e' : some g = some j := e
      exact (Option.some.inj e').symm
    refine ⟨u, h.mv, h.hB, (fun e => ?_), fun j hj => ⟨(h.hv j hj).1, fun e => ?_⟩, fun j e => ?_⟩
    · have := key _ e
      subst this
      rw [h.mv.m] at hg
      simp at hg
    · have := key _ e
      subst this
      rcases h.mv.r with ⟨rfl, _⟩ | ⟨g', n, c, rfl, _, _, _, r, hr, _⟩
      · cases hj
      · obtain rfl : g' = j := by simpa [Value.ownBlock] using hj
        rw [hr] at hg
        simp at hg
    · rw [key _ e]; exact (Array.getElem?_eq_some_iff.1 hg).1
theorem MapIn.grown {B : Nat} {w w' : World} {b : Nat} {z : Int} {l : List (Int × Int)} {v : Value} (h : MapIn B (ownX v) w b z l) (hb : w.grownBy w' v.ownBlock) : MapIn B noX w' b z l := by
  obtain ⟨u, h⟩ := h
  exact ⟨u, h.mv.of (hb.block b h.mv.lt fun e => h.hx e.symm) fun j hj => hb.block j (h.mv.r.lt hj) fun e => (h.hv j hj).2 e.symm, h.hB, (fun h => h), (fun j hj => ⟨(h.hv j hj).1, fun h => h⟩), fun _ h => False.elim h⟩

/-- Sector i is of the call x. -/
def ActV.has (x : ActV) (i : Int) : Prop := x.a ≤ i ∧ i < x.a + x.n
/-- The runs l are what the calls T took. -/
structure TkR (z : Int) (l : List (Int × Int)) (T : List ActV) : Prop where
  wf : WF z l
  mem : ∀ i, inR l i ↔ ∃ x ∈ T, x.has i
  ok : ∀ x ∈ T, 0 ≤ x.a ∧ 1 ≤ x.n ∧ x.a + x.n ≤ z
  ap : T.Pairwise fun x y => ∀ i, ¬ (x.has i ∧ y.has i)
theorem TkR.nil (z : Int) : TkR z [] [] := ⟨WF.nil z, fun i => by simp [inR_nil], (fun _ h => by cases h), .nil⟩
theorem TkR.snoc {z : Int} {l l' : List (Int × Int)} {T : List ActV} {x : ActV} (h : TkR z l T) (hf : FreeR z l x.a x.n) (ht : Taken z l x.a x.n l') : TkR z l' (T ++ [x]) := by
  refine ⟨ht.wf, fun i => ?_, fun y hy => ?_, List.pairwise_append.2 ⟨h.ap, List.pairwise_singleton _ _, fun y hy u hu i hi => ?_⟩⟩
  · rw [ht.mem, h.mem]
    constructor
    · rintro (⟨y, hy, hi⟩ | hi)
      · exact ⟨y, List.mem_append_left _ hy, hi⟩
      · exact ⟨x, by simp, hi⟩
    · rintro ⟨y, hy, hi⟩
      rcases List.mem_append.1 hy with hy | hy
      · exact .inl ⟨y, hy, hi⟩
      · rw [List.mem_singleton.1 hy] at hi; exact .inr hi
  · rcases List.mem_append.1 hy with hy | hy
    · exact h.ok y hy
    · rw [List.mem_singleton.1 hy]; exact ⟨hf.1, hf.2.1, hf.2.2.1⟩
  · rw [List.mem_singleton.1 hu] at hi
    exact hf.2.2.2 i hi.2.1 hi.2.2 ((h.mem i).2 ⟨y, hy, hi.1⟩)
/-- The calls at the places that come first, turned round by r. -/
structure RotR (z : Int) (l : List (Int × Int)) (T : List ActV) (r s : Nat) : Prop where
  wf : WF z l
  mem : ∀ i, inR l i ↔ ∃ j, j < s ∧ ∃ h : (j + r) % T.length < T.length, (T[(j + r) % T.length]).has i
theorem RotR.nil (z : Int) (T : List ActV) (r : Nat) : RotR z [] T r 0 := ⟨WF.nil z, fun i => by simp [inR_nil]⟩
theorem rot_ne {n r j s : Nat} (hj : j < s) (hs : s < n) : (j + r) % n ≠ (s + r) % n := fun e => by
  have h1 := Nat.div_add_mod (j + r) n
  have h2 := Nat.div_add_mod (s + r) n
  rw [e] at h1
  rcases Nat.lt_trichotomy ((j + r) / n) ((s + r) / n) with h | h | h
  · have : n * ((j + r) / n) + n ≤ n * ((s + r) / n) := by rw [← Nat.mul_succ]; exact Nat.mul_le_mul_left _ h
    omega
  · rw [h] at h1; omega
  · have : n * ((s + r) / n) + n ≤ n * ((j + r) / n) := by rw [← Nat.mul_succ]; exact Nat.mul_le_mul_left _ h
    omega
theorem RotR.free {z : Int} {l la : List (Int × Int)} {T : List ActV} {r s : Nat} (h : RotR z l T r s) (hT : TkR z la T) (hs : s < T.length) (hq : (s + r) % T.length < T.length) : FreeR z l (T[(s + r) % T.length]).a (T[(s + r) % T.length]).n := by
  obtain ⟨h0, h1, h2⟩ := hT.ok _ (List.getElem_mem hq)
  refine ⟨h0, h1, h2, fun i hi0 hi1 hi => ?_⟩
  obtain ⟨j, hj, hq', hh⟩ := (h.mem i).1 hi
  have hne := rot_ne (n := T.length) (r := r) hj hs
  have hap := List.pairwise_iff_getElem.1 hT.ap
  rcases Nat.lt_or_gt_of_ne hne with hlt | hgt
  · exact hap _ _ hq' hq hlt i ⟨hh, ⟨hi0, hi1⟩⟩
  · exact hap _ _ hq hq' hgt i ⟨⟨hi0, hi1⟩, hh⟩
theorem RotR.step {z : Int} {l l' : List (Int × Int)} {T : List ActV} {r s : Nat} (h : RotR z l T r s) (hq : (s + r) % T.length < T.length) (ht : Taken z l (T[(s + r) % T.length]).a (T[(s + r) % T.length]).n l') : RotR z l' T r (s + 1) :=
  ⟨ht.wf, fun i => by
    rw [ht.mem, h.mem]
    constructor
    · rintro (⟨j, hj, hh⟩ | hi)
      · exact ⟨j, by omega, hh⟩
      · exact ⟨s, by omega, hq, hi⟩
    · rintro ⟨j, hj, hq', hh⟩
      rcases Nat.lt_succ_iff_lt_or_eq.1 hj with hj | rfl
      · exact .inl ⟨j, hj, hq', hh⟩
      · exact .inr hh⟩
theorem RotR.all {z : Int} {l la : List (Int × Int)} {T : List ActV} {r : Nat} (h : RotR z l T r T.length) (hT : TkR z la T) : la = l :=
  hT.wf.uniq h.wf fun i => by
    rw [hT.mem, h.mem]
    constructor
    · rintro ⟨x, hx, hi⟩
      obtain ⟨p, hp, rfl⟩ := List.getElem_of_mem hx
      have hn : 0 < T.length := by omega
      have e : ((p + (T.length - r % T.length)) % T.length + r) % T.length = p := by
        rw [Nat.mod_add_mod]
        have h1 := Nat.mod_lt r hn
        have h2 := Nat.div_add_mod r T.length
        have e2 : p + (T.length - r % T.length) + r = p + T.length * (r / T.length + 1) := by rw [Nat.mul_succ]; omega
        rw [e2, Nat.add_mul_mod_self_left, Nat.mod_eq_of_lt hp]
      refine ⟨(p + (T.length - r % T.length)) % T.length, Nat.mod_lt _ hn, by rw [e]; exact hp, ?_⟩
      simp only [e]
      exact hi
    · rintro ⟨j, _, hq, hi⟩
      exact ⟨_, List.getElem_mem hq, hi⟩
end Go.Proofs.Ytoiiaacjpobaeaa
