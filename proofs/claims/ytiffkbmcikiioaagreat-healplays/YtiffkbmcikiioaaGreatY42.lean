/-
  A right pointer's places; what a block is read as at one place after the other (no program is named here, but ptr.Places).
  ptr.Places of a right pointer: a new slice.
-/
import Derived.Test.YtiffkbmcikiioaaGreatY40
import Derived.Test.YtiffkbmcikiioaaGreatY39
import Derived.Test.YtiffkbmcikiioaaGreatY18

/- A right pointer's places; what a block is read as at one place after the other (no program is named here, but ptr.Places). -/
namespace Go.Proofs.YtiffkbmcikiioaaGreat
set_option maxRecDepth 100000
open Go.RowKit Go.Maps M

/-- A pointer's places. -/
def nP (p : Ptr) : Nat := if p.two then 2 else 1
def atP (p : Ptr) (j : Nat) : Int × Int := if j = 0 then (p.ag, p.aa) else (p.bg, p.ba)
def kN (p : Ptr) (j : Nat) : Nat := (atP p j).1.toNat
def tN (p : Ptr) (j : Nat) : Nat := (atP p j).2.toNat
/-- The columns of a block at one of its places, their texts, what they read as, and their tries. -/
def LL (l : List (Int × Int)) (p : Ptr) (z j : Nat) : List C := colsOf l (kN p j) (tN p j) z
def EE (l : List (Int × Int)) (p : Ptr) (z : Nat) (s : ByteArray) (j : Nat) : List ByteArray := encOf l (kN p j) (tN p j) z s
def TT (l : List (Int × Int)) (sc : Int) (p : Ptr) (z : Nat) (R : Nat → List ByteArray) (j : Nat) : List (Int × ByteArray) := triesOf l sc (kN p j) (tN p j) z (R j)
def RW (ds : Nat → Dv) (aw : Nat → Bool) (l : List (Int × Int)) (p : Ptr) (z j : Nat) : List ByteArray := rawL ds aw (LL l p z j)
structure PR (l : List (Int × Int)) (sc : Int) (p : Ptr) (z : Nat) : Prop where
  ok : p.Ok
  right : rightP l sc p = true
  ne : p ≠ noP
  sz : p.sz = (z : Int)
  blk : ∀ j, j < nP p → atP p j = ((kN p j : Int), (tN p j : Int)) ∧ Blk l sc (kN p j) (tN p j) z
  apart : ∀ i j, i < nP p → j < nP p → i ≠ j → ∀ a b, a < (LL l p z i).length → b < (LL l p z j).length → ¬ (devN (LL l p z i) a = devN (LL l p z j) b ∧ atN (LL l p z i) a = atN (LL l p z j) b)
  diff : p.two = true → ¬ (p.ag = p.bg ∧ p.aa = p.ba)
theorem nP_pos (p : Ptr) : 0 < nP p := by unfold nP; split <;> omega
theorem nP_le (p : Ptr) : nP p ≤ 2 := by unfold nP; split <;> omega
theorem Blk.cols {l : List (Int × Int)} {sc : Int} {k t z : Nat} (h : Blk l sc k t z) (j : Nat) (hj : j < (colsOf l k t z).length) : (colsOf l k t z)[j].dev = (devN (colsOf l k t z) j : Int) ∧ (colsOf l k t z)[j].at_ = (atN (colsOf l k t z) j : Int) := by
  have h0 := (h.dev j hj).1
  have h1 := (h.laid.dev0 j hj)
  have h2 := h.laid.at0 j hj
  unfold devN atN
  rw [List.getD_eq_getElem?_getD, List.getElem?_eq_getElem hj]
  simp only [Option.getD_some]
  omega
theorem PR.of {l : List (Int × Int)} {sc : Int} {p : Ptr} (hx : p.Ok) (h : rightP l sc p = true) : ∃ z, PR l sc p z := by
  have h' := h
  unfold rightP at h'
  rw [Bool.and_eq_true, Bool.and_eq_true] at h'
  obtain ⟨⟨hrg, hA⟩, hB⟩ := h'
  have hne : p ≠ noP := fun e => by
    rw [decide_eq_true_iff] at hrg
    have := hrg.2.2.1
    rw [e] at this
    exact absurd this (by decide)
  obtain ⟨k, t, z, e1, e2, e3, hb⟩ := mayL_iff.1 hA
  have a0 : atP p 0 = (p.ag, p.aa) := rfl
  have k0 : kN p 0 = k := by unfold kN; rw [a0]; simp only; omega
  have t0 : tN p 0 = t := by unfold tN; rw [a0]; simp only; omega
  have b0 : atP p 0 = ((kN p 0 : Int), (tN p 0 : Int)) ∧ Blk l sc (kN p 0) (tN p 0) z := by rw [k0, t0, a0, e1, e2]; exact ⟨rfl, hb⟩
  cases h2 : p.two with
  | false =>
    have n1 : nP p = 1 := by unfold nP; rw [h2]; rfl
    refine ⟨z, hx, h, hne, e3, fun j hj => ?_, fun i j hi hj hij => ?_, fun e => by rw [h2] at e; cases e⟩
    · obtain rfl : j = 0 := by omega
      exact b0
    · omega
  | true =>
    have n2 : nP p = 2 := by unfold nP; rw [h2]; rfl
    rw [h2, if_pos rfl, Bool.and_eq_true] at hB
    obtain ⟨k', t', z', f1, f2, f3, hb'⟩ := mayL_iff.1 hB.1
    obtain rfl : z = z' := by omega
    have a1 : atP p 1 = (p.bg, p.ba) := rfl
    have k1 : kN p 1 = k' := by unfold kN; rw [a1]; simp only; omega
    have t1 : tN p 1 = t' := by unfold tN; rw [a1]; simp only; omega
    have b1 : atP p 1 = ((kN p 1 : Int), (tN p 1 : Int)) ∧ Blk l sc (kN p 1) (tN p 1) z := by rw [k1, t1, a1, f1, f2]; exact ⟨rfl, hb'⟩
    have hap : ∀ a b, a < (colsOf l k t z).length → b < (colsOf l k' t' z).length → ¬ (devN (colsOf l k t z) a = devN (colsOf l k' t' z) b ∧ atN (colsOf l k t z) a = atN (colsOf l k' t' z) b) := fun a b ha hb2 ⟨u1, u2⟩ => by
      have c1 := hb.cols a ha
      have c2 := hb'.cols b hb2
      refine blk_apart hb hb' ?_ a b ha hb2 ⟨by rw [c1.1, c2.1, u1], by rw [c1.2, c2.2, u2]⟩
      have := hB.2
      unfold apartL at this
      rw [decide_eq_true_iff] at this
      by_cases ek : k = k'
      · subst ek
        right
        have et : tk l p.ag p.sz = takesG (l[k]'hb.hk) z := by
          unfold tk
          rw [e1, Int.toNat_natCast, getD_at hb.hk, e3]
        rw [et] at this
        omega
      · exact .inl ek
    refine ⟨z, hx, h, hne, e3, fun j hj => ?_, fun i j hi hj hij => ?_, fun _ hh => ?_⟩
    · rcases (show j = 0 ∨ j = 1 by omega) with rfl | rfl
      · exact b0
      · exact b1
    · rcases (show (i = 0 ∧ j = 1) ∨ (i = 1 ∧ j = 0) by omega) with ⟨rfl, rfl⟩ | ⟨rfl, rfl⟩
      · unfold LL
        rw [k0, t0, k1, t1]
        exact hap
      · unfold LL
        rw [k0, t0, k1, t1]
        exact fun a b ha hb2 hh => hap b a hb2 ha ⟨hh.1.symm, hh.2.symm⟩
    · have h1 := (mayL_facts hA).2.2.2.2.2.2.1
      have h2 := hB.2
      unfold apartL at h2
      rw [decide_eq_true_iff] at h2
      omega

/-- The first place at which a try has the sum: which place, which device, and the text. -/
def lookTo (q : Q) (T : Nat → List (Int × ByteArray)) : Nat → Option (Nat × Int × ByteArray)
  | 0 => none
  | n + 1 => match lookTo q T n with
    | some r => some r
    | none => (hitQ q (T n)).map fun y => (n, y.1, y.2)
/-- Could a column not be read, at one of the first places? -/
def lostTo (R : Nat → List ByteArray) : Nat → Bool
  | 0 => false
  | n + 1 => lostTo R n || holeL (R n)
theorem lookTo_hit {q : Q} {T : Nat → List (Int × ByteArray)} {n : Nat} {y : Int × ByteArray} (h : lookTo q T n = none) (hy : hitQ q (T n) = some y) : lookTo q T (n + 1) = some (n, y.1, y.2) := by
  rw [lookTo, h, hy]; rfl
theorem lookTo_miss {q : Q} {T : Nat → List (Int × ByteArray)} {n : Nat} (h : lookTo q T n = none) (hy : hitQ q (T n) = none) : lookTo q T (n + 1) = none := by
  rw [lookTo, h, hy]; rfl
theorem lookTo_stay {q : Q} {T : Nat → List (Int × ByteArray)} {n : Nat} {r : Nat × Int × ByteArray} (h : lookTo q T n = some r) : ∀ m, n ≤ m → lookTo q T m = some r := by
  intro m hm
  induction m with
  | zero => obtain rfl : n = 0 := by omega
            exact h
  | succ m ih =>
    rcases Nat.lt_or_ge m n with e | e
    · obtain rfl : n = m + 1 := by omega
      exact h
    · rw [lookTo, ih e]
theorem lookTo_some {q : Q} {T : Nat → List (Int × ByteArray)} {n i : Nat} {d : Int} {s : ByteArray} (h : lookTo q T n = some (i, d, s)) : i < n ∧ hitQ q (T i) = some (d, s) ∧ ∀ j, j < i → hitQ q (T j) = none := by
  induction n with
  | zero => cases h
  | succ n ih =>
    rw [lookTo] at h
    cases hn : lookTo q T n with
    | some r =>
      rw [hn] at h
      cases h
      obtain ⟨h1, h2, h3⟩ := ih hn
      exact ⟨by omega, h2, h3⟩
    | none =>
      rw [hn] at h
      cases hy : hitQ q (T n) with
      | none => rw [hy] at h; cases h
      | some y =>
        rw [hy] at h
        simp only [Option.map_some, Option.some.injEq, Prod.mk.injEq] at h
        obtain ⟨rfl, rfl, rfl⟩ := h
        refine ⟨Nat.lt_succ_self _, hy, fun j hj => ?_⟩
        cases e : hitQ q (T j) with
        | none => rfl
        | some y' =>
          exfalso
          have hex : ∀ m, j < m → lookTo q T m ≠ none := by
            intro m
            induction m with
            | zero => intro hm; omega
            | succ m ihm =>
              intro hm hno
              rw [lookTo] at hno
              cases e2 : lookTo q T m with
              | some r => rw [e2] at hno; cases hno
              | none =>
                by_cases ejm : j = m
                · subst ejm
                  rw [e2, e] at hno
                  cases hno
                · exact ihm (by omega) e2
          exact hex n hj hn
theorem lookTo_none {q : Q} {T : Nat → List (Int × ByteArray)} {n : Nat} (h : lookTo q T n = none) : ∀ j, j < n → hitQ q (T j) = none := by
  induction n with
  | zero => intro j hj; omega
  | succ n ih =>
    rw [lookTo] at h
    cases hn : lookTo q T n with
    | some r => rw [hn] at h; cases h
    | none =>
      rw [hn] at h
      intro j hj
      by_cases e : j = n
      · subst e
        cases hy : hitQ q (T j) with
        | none => rfl
        | some y => rw [hy] at h; cases h
      · exact ih hn j (by omega)
theorem hitQ_at {q : Q} {xs : List (Int × ByteArray)} {i : Nat} {y : Int × ByteArray} (hy : xs[i]? = some y) (hs : sumB y.2 = q) (hno : ∀ x ∈ xs.take i, sumB x.2 ≠ q) : hitQ q xs = some y := by
  obtain ⟨hi, rfl⟩ := List.getElem?_eq_some_iff.1 hy
  have e : xs = xs.take i ++ xs[i] :: xs.drop (i + 1) := by rw [List.getElem_cons_drop, List.take_append_drop]
  unfold hitQ
  conv => lhs; rw [e]
  rw [List.find?_append]
  have h0 : (xs.take i).find? (fun y => sameQ (sumB y.2) q) = none := List.find?_eq_none.2 fun x hx h => hno x hx (sameQ_iff.1 h)
  have e1 : (fun y : Int × ByteArray => sameQ (sumB y.2) q) xs[i] = true := sameQ_iff.2 hs
  rw [h0, List.find?_cons_of_pos (p := fun y : Int × ByteArray => sameQ (sumB y.2) q) e1]
  rfl
theorem hitQ_no {q : Q} {xs : List (Int × ByteArray)} (hno : ∀ x ∈ xs, sumB x.2 ≠ q) : hitQ q xs = none := List.find?_eq_none.2 fun x hx h => hno x hx (sameQ_iff.1 h)
/-- What Look answers. -/
def lookV (q : Q) (T : Nat → List (Int × ByteArray)) (R : Nat → List ByteArray) (n : Nat) : Value :=
  match lookTo q T n with
  | some (i, d, s) => .tuple #[.agg #[.string s, .int .i64 (i : Int), .int .i64 d, .int .i64 0], .int .i64 0]
  | none => .tuple #[.agg #[.string ⟨#[]⟩, .int .i64 0, .int .i64 0, .int .i64 0], .int .i64 (if lostTo R n then 6 else 4)]

/-- A pointer's places, in memory. -/
def PlA (w : World) (g : Nat) (p : Ptr) : Prop := g < w.heap.size ∧ ∀ j, j < nP p → w.cell? ⟨g, j * 2, none⟩ = some (.int .i64 (atP p j).1) ∧ w.cell? ⟨g, j * 2 + 1, none⟩ = some (.int .i64 (atP p j).2)
theorem PlA.next {w w' : World} {g : Nat} {p : Ptr} (h : PlA w g p) (hb : Below w.heap.size w w') : PlA w' g p :=
  ⟨Nat.lt_of_lt_of_le h.1 hb.size, fun j hj => ⟨(hb.cell (p := ⟨g, j * 2, none⟩) h.1).trans (h.2 j hj).1, (hb.cell (p := ⟨g, j * 2 + 1, none⟩) h.1).trans (h.2 j hj).2⟩⟩
theorem places_pr (p : Ptr) (hne : p ≠ noP) (w : World) :
    Calls Tryz.prog 19 #[p.val] w fun e w' => ∃ g, e = .returned (.slice (some ⟨g, 0, none⟩) (nP p) (nP p)) ∧ PlA w' g p ∧ Below w.heap.size w w' := by
  refine (places_any p w).mono ?_
  rintro e w' ⟨v, rfl, hv, hb⟩
  rcases hv with ⟨e, _⟩ | ⟨_, h2, g, rfl, hg, c0, c1, c2, c3⟩ | ⟨_, h2, g, rfl, hg, c0, c1⟩
  · exact absurd e hne
  · have n2 : nP p = 2 := by unfold nP; rw [h2]; rfl
    refine ⟨g, by rw [n2], ⟨hg, fun j hj => ?_⟩, hb⟩
    rcases (show j = 0 ∨ j = 1 by omega) with rfl | rfl
    · exact ⟨c0, c1⟩
    · exact ⟨c2, c3⟩
  · have n1 : nP p = 1 := by unfold nP; rw [h2]; rfl
    refine ⟨g, by rw [n1], ⟨hg, fun j hj => ?_⟩, hb⟩
    obtain rfl : j = 0 := by omega
    exact ⟨c0, c1⟩
end Go.Proofs.YtiffkbmcikiioaaGreat

/- ptr.Places of a right pointer: a new slice. -/
namespace Go.Proofs.YtiffkbmcikiioaaGreat
set_option maxRecDepth 100000
open Go.RowKit M

theorem places_new (x : Ptr) (hne : x ≠ noP) (w : World) :
    Calls Tryz.prog 19 #[x.val] w fun e w' => ∃ g, e = .returned (.slice (some ⟨g, 0, none⟩) (nP x) (nP x)) ∧ w.heap.size ≤ g ∧ PlA w' g x ∧ Below w.heap.size w w' := by
  have K := Lib.hid (Box.new w x)
  unfold Ptr.cells at K
  have HN := Lib.hid (none_any x · false (eqP_not.2 hne))
  clear hne
  simp only [Ptr.val, Ptr.cells] at HN ⊢
  go_enter Tryz.func19, Tryz.ntmps19
  go_wp2_with fail
  refine (HN.out _).mono ?_
  rintro e w1 ⟨rfl, b1⟩
  have HW := Lib.hid (next (boxed w _) b1)
  obtain ⟨c0, c1, c2, c3, c4, c5, c6, c7, c8, c9, c10, c11, hlt⟩ := K.out.next b1
  clear b1 K HN
  by_cases ht : x.two = true
  · rw [ht] at c4
    have n2 : Hid (nP x = 2) := Lib.hid (by unfold nP; rw [ht]; rfl)
    clear ht
    go_wp2
    go_ret
    refine ⟨w1.heap.size, by rw [n2.out]; rfl, HW.out.size, ⟨by simp, fun j hj => ?_⟩, next HW.out (boxed _ _)⟩
    rw [n2.out] at hj
    rcases (show j = 0 ∨ j = 1 by omega) with rfl | rfl
    · unfold atP; simp
    · unfold atP; simp
  · have ht' : x.two = false := by simpa using ht
    have n1 : Hid (nP x = 1) := Lib.hid (by unfold nP; rw [ht']; rfl)
    rw [ht'] at c4
    clear ht ht'
    go_wp2
    go_ret
    refine ⟨w1.heap.size, by rw [n1.out]; rfl, HW.out.size, ⟨by simp, fun j hj => ?_⟩, next HW.out (boxed _ _)⟩
    rw [n1.out] at hj
    obtain rfl : j = 0 := by omega
    unfold atP
    simp
theorem PlA.turn {g b : Nat} {p : Ptr} {W W' : World} (h : PlA W g p) (tn : Turn (fun k => k = b) W W') (hne : g ≠ b) : PlA W' g p :=
  ⟨Nat.lt_of_lt_of_le h.1 tn.size, fun j hj => ⟨(tn.cell h.1 hne).trans (h.2 j hj).1, (tn.cell h.1 hne).trans (h.2 j hj).2⟩⟩
theorem PlA.new {g B : Nat} {p : Ptr} {W : World} (h : PlA W g p) (hB : B ≤ g) : New B W (fun W => PlA W g p) := fun w' hz hb =>
  ⟨Nat.lt_of_lt_of_le h.1 hz, fun j hj => ⟨New.cell (h.2 j hj).1 hB w' hz hb, New.cell (h.2 j hj).2 hB w' hz hb⟩⟩
end Go.Proofs.YtiffkbmcikiioaaGreat
