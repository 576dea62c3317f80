/-
  Plain facts for HealLook: what is read again, behind a Read that found it at the first place; devices with nothing cached.
-/
import Derived.Test.YtiffkbmcikiioaaGreatY49
import Derived.Test.YtiffkbmcikiioaaGreatY19
import Derived.Test.YtiffkbmcikiioaaGreatY31
import Derived.Test.YtiffkbmcikiioaaGreatY16
import Derived.Test.YtiffkbmcikiioaaGreatY06
namespace Go.Proofs.YtiffkbmcikiioaaGreat
set_option maxRecDepth 100000
open Go.RowKit Go.Maps M

section
variable {l : List (Int × Int)} {sc : Int} {p : Ptr} {z n : Nat} {ds : Nat → Dv} {aw : Nat → Bool}
/-- What was found at the first place is found there again. -/
theorem PR.again0 (hp : PR l sc p z) (hn : devsL l sc = (n : Int)) (hR : RawP l p z aw ds) {d : Int} {s : ByteArray} (hf : lookTo p.q (TT l sc p z (RW ds aw l p z)) (nP p) = some (0, d, s)) (hs : s.size = z * 64) :
    ∃ d', lookTo p.q (TT l sc p z (RW (readS l aw p z s ds 0) aw l p z)) (nP p) = some (0, d', s) := by
  obtain ⟨hi, hhit, _⟩ := lookTo_some hf
  obtain ⟨hmem, hsum⟩ := hitQ_some hhit
  have hm : (∀ y ∈ TT l sc p z (RW (readS l aw p z s ds 0) aw l p z) 0, y.2 = s) ∧ (TT l sc p z (RW (readS l aw p z s ds 0) aw l p z) 0).length = (TT l sc p z (RW ds aw l p z) 0).length := by
    obtain ⟨_, hb⟩ := hp.blk 0 hi
    obtain ⟨kk, u, hE⟩ := hb.enc7 hs
    unfold TT
    rw [hp.rw_read hn s hi hi, if_pos (.inl rfl)]
    exact hE.mended (hR 0 hi)
  have hne : TT l sc p z (RW (readS l aw p z s ds 0) aw l p z) 0 ≠ [] := fun e => by
    have h2 := hm.2
    rw [e] at h2
    have := List.length_pos_of_mem hmem
    simp at h2
    omega
  obtain ⟨d', hd⟩ := hitQ_all hm.1 hsum hne
  exact ⟨d', lookTo_stay (lookTo_hit rfl hd) _ hi⟩
/-- A second Read finds the text again; it mends nothing, where the first one found it at the first place. -/
theorem PR.twice (hp : PR l sc p z) (hn : devsL l sc = (n : Int)) (hR : RawP l p z aw ds) {i : Nat} {d : Int} {s : ByteArray} (hf : lookTo p.q (TT l sc p z (RW ds aw l p z)) (nP p) = some (i, d, s)) (hs : s.size = z * 64) :
    ∃ i' d', lookTo p.q (TT l sc p z (RW (readS l aw p z s ds i) aw l p z)) (nP p) = some (i', d', s) ∧ (readN l aw p z s (readS l aw p z s ds i) i' = 0 ∨ 0 < i) := by
  by_cases e : i = 0
  · subst e
    obtain ⟨d', h'⟩ := hp.again0 hn hR hf hs
    refine ⟨0, d', h', .inl ?_⟩
    unfold readN readS
    rw [if_pos rfl, if_pos rfl]
    exact hp.unl_fix hn aw s ds (nP_pos p)
  · obtain ⟨i', d', h'⟩ := hp.again hn hR hf hs
    exact ⟨i', d', h', .inr (by omega)⟩
end
/-- Nothing is cached on any of the first devices. -/
def NoneC (n : Nat) (ds : Nat → Dv) : Prop := ∀ i, i < n → (ds i).since = (fun _ => []) ∧ (ds i).lost = false
theorem NoneC.keys {n : Nat} {ds : Nat → Dv} (h : NoneC n ds) {i : Nat} (hi : i < n) : (ds i).keys = [] := by
  unfold Dv.keys
  rw [(h i hi).1]
  simp
theorem NoneC.spoil {n : Nat} {ds : Nat → Dv} (h : NoneC n ds) (i : Nat) (k p : Int) (c : UInt8) : NoneC n (upd ds i (spoilD8 (ds i) k p c)) := fun j hj => by
  by_cases e : j = i
  · subst e
    obtain ⟨h1, h2⟩ := h j hj
    refine ⟨?_, ?_⟩
    · unfold upd
      rw [if_pos rfl]
      unfold spoilD8
      split
      · unfold Dv.turn
        rw [if_pos (by rw [h1])]
        exact h1
      · exact h1
    · unfold upd
      rw [if_pos rfl, (spoilD8_same _ _ _ _).1]
      exact h2
  · unfold upd
    rw [if_neg e]
    exact h j hj
theorem cached8 {X : Nat → Prop} {B : Nat} {w : World} {x : Px} {l : List (Int × Int)} {ds : Nat → Dv} {aw : Nat → Bool} {K : Nat} {P : World → Prop} (h : StX X B w x l ds aw K P) (hc : NoneC x.n ds) (hK : K ≤ 4294967296) {i : Nat} (hi : i < x.n) :
    ∃ b, w.cell? ⟨x.lb, i, none⟩ = some (.pointer (some ⟨b, 0, none⟩)) ∧ ∀ w4, Below w.heap.size w w4 → Calls Tryz.prog 26 #[.pointer (some ⟨b, 0, none⟩)] w4 fun e w' => ∃ a c, e = .returned (.slice a 0 c) ∧ Below w4.heap.size w4 w' := by
  obtain ⟨b, f, hb, hd⟩ := h.at_ hi
  refine ⟨b, hb, fun w4 b4 => ?_⟩
  have hg := (h.good hi).cnt
  refine (cached_any b (ds i) f w4 (hd.below b4) (by omega)).mono ?_
  rintro e w' ⟨v, rfl, hO, hb'⟩
  rw [hc.keys hi] at hO
  have hO' : OwnI w4.heap.size w' v [] := hO
  obtain ⟨a, n, c, rfl, hl, _⟩ := hO'.v
  obtain rfl : n = 0 := by simpa using hl.symm
  exact ⟨a, c, rfl, hb'⟩
/-- The first devices flushed. -/
def fluS (ds : Nat → Dv) (k : Nat) : Nat → Dv := fun i => if i < k then (ds i).flush else ds i
theorem fluS_zero (ds : Nat → Dv) : fluS ds 0 = ds := by
  funext i
  unfold fluS
  simp
theorem fluS_next (ds : Nat → Dv) (k : Nat) : upd (fluS ds k) k (fluS ds k k).flush = fluS ds (k + 1) := by
  funext i
  unfold upd fluS
  by_cases e : i = k
  · subst e; simp
  · rw [if_neg e]
    by_cases h : i < k
    · rw [if_pos h, if_pos (by omega)]
    · rw [if_neg h, if_neg (by omega)]
theorem fluS_lost (ds : Nat → Dv) (k i : Nat) : (fluS ds k i).lost = (ds i).lost := by unfold fluS; split <;> rfl
theorem fluS_none {ds : Nat → Dv} {n : Nat} (h : ∀ i, i < n → (ds i).lost = false) : NoneC n (fluS ds n) := fun i hi => ⟨by unfold fluS; rw [if_pos hi]; rfl, by rw [fluS_lost]; exact h i hi⟩
end Go.Proofs.YtiffkbmcikiioaaGreat
