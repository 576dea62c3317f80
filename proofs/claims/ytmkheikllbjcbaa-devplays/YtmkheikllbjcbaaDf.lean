/-
  settle.
-/
import Derived.Test.YtmkheikllbjcbaaDe
namespace Go.Proofs.Ytmkheikllbjcbaa
open Go.RowKit Go.Maps

/-- The medium with one sector turned. -/
theorem DevIn.medSet {w : World} {b mb cb m : Nat} {hd : Nat → Nat × Nat} {S : Dv} {fp : Nat → Prop} (h : DevIn w b mb cb m hd S fp) (k : Nat) (hk : k < S.med.length) (x : Sec) (hx : x.length = 64) :
    DevIn (w.setCells mb (k * 64) (secCells x)) b mb cb m hd { S with med := S.med.set k x } fp := by
  obtain ⟨h1, h2⟩ := heap_setCells mb (secCells x) (k * 64) w
  have e : (S.med.set k x).length = S.med.length := List.length_set
  refine ⟨⟨by rw [e]; exact h.ok.n1, by rw [e]; exact h.ok.n2, fun i hi => h.ok.out i (by rw [← e]; exact hi), h.ok.left, h.ok.cnts⟩, ?_, ?_, h.map.same (h2 _ h.cmb), h.mle, fun i hi => (h.vers i hi).same (h2 _ (h.apart i hi)), h.inj, h.apart, h.fb, h.fm, h.fc, h.fv, fun j hj => by rw [h1]; exact h.lt j hj⟩
  · rw [h2 _ h.bm, h.blk]
    unfold dvCells
    rw [e]
  · have := h.med.setCells k hk x hx
    show Rows _ mb (S.med.set k x).length _
    rw [e]
    exact this

/-- What a crash leaves of a sector by a number. -/
def Dv.settle (S : Dv) (k : Nat) (n : Int) : Dv := { S with med := S.med.set k ((S.med.getD k [] :: S.since k).getD (n % ((S.since k).length + 1 : Int)).toNat []) }
theorem settle_zero {S : Dv} {k : Nat} {n : Int} (hk : k < S.med.length) (h : n % ((S.since k).length + 1 : Int) = 0) : S.settle k n = S := by
  unfold Dv.settle
  rw [h]
  cases S with | mk med since lost fused left cnt =>
  simp only at hk ⊢
  congr 1
  rw [show (0 : Int).toNat = 0 from rfl, List.getD_cons_zero, List.getD_eq_getElem?_getD, List.getElem?_eq_getElem hk]
  simp

set_option maxHeartbeats 1000000 in
theorem settle_any (b mb cb m : Nat) (hd : Nat → Nat × Nat) (S : Dv) (fp : Nat → Prop) (k : Nat) (n : Int) (w : World) (h : DevIn w b mb cb m hd S fp) (hk : k < S.med.length) (hc : S.cnt ≤ 4294967296) :
    Calls Try.prog 32 #[.pointer (some ⟨b, 0, none⟩), .int .i64 (k : Int), .int .i64 n] w fun e w' => e = .returned (.tuple #[]) ∧ DevIn w' b mb cb m hd (S.settle k n) fp ∧ Turn fp w w' := by
  have hn2 := h.ok.n2
  have hlen := h.ok.cnts k
  have hlook := h.map.look (k : Int) (wfN k (by omega))
  have c0 := h.c0
  have c1 := h.c1
  have H := Lib.hid h
  have hrest := fun w => rest_any n ((S.since k).length + 1 : Int) w ⟨by omega, by omega⟩
  have hm0 := Int.emod_nonneg n (show ((S.since k).length + 1 : Int) ≠ 0 by omega)
  have hm1 := Int.emod_lt_of_pos n (show 0 < ((S.since k).length + 1 : Int) by omega)
  have Z0 := Lib.hid (@settle_zero S k n hk)
  have hlen2 : ∀ v : Hd, v = hdOf S hd k → ∃ a c, v.val = .slice a (S.since k).length c ∧ (S.since k ≠ [] → a = some ⟨(hd k).1, 0, none⟩ ∧ c = (hd k).2) := by
    rintro v rfl
    unfold hdOf
    by_cases e : S.since k = []
    · rw [if_pos (.inr (by simpa using e)), e]
      exact ⟨_, _, rfl, fun h => absurd rfl h⟩
    · rw [if_neg (by simpa using e)]
      exact ⟨_, _, rfl, fun _ => ⟨rfl, rfl⟩⟩
  obtain ⟨a0, c, hv, hac⟩ := hlen2 _ rfl
  rw [hv] at hlook
  clear hlen2 hv
  by_cases hz : n % ((S.since k).length + 1 : Int) = 0
  · have e := Z0.out hz
    rw [e]
    have hz2 : decide (0 < n % ((S.since k).length + 1 : Int)) = false := by rw [hz]; rfl
    clear h e Z0
    have HZ := Lib.hid hz
    clear hz
    generalize n % ((S.since k).length + 1 : Int) = r at *
    generalize (S.since k).length = q at *
    go_enter Try.func32, Try.ntmps32
    go_wp2_with fail
    refine (hrest _).mono ?_
    rintro e w1 ⟨rfl, rfl⟩
    go_wp2
    go_end0
    exact ⟨rfl, H.out, Turn.refl _ _⟩
  · clear Z0
    obtain ⟨j, hj⟩ : ∃ j : Nat, n % ((S.since k).length + 1 : Int) = (j : Int) + 1 := ⟨(n % ((S.since k).length + 1 : Int) - 1).toNat, by omega⟩
    have hjl : j < (S.since k).length := by omega
    have hne : S.since k ≠ [] := fun e => by rw [e] at hjl; simp at hjl
    obtain ⟨rfl, rfl⟩ := hac hne
    have hv := h.vers k hne
    have hcc := hv.le
    have hcm := hv.cap
    have hS : S.settle k n = { S with med := S.med.set k (S.since k)[j] } := by
      unfold Dv.settle
      rw [hj, show ((j : Int) + 1).toNat = j + 1 by omega, List.getD_cons_succ, List.getD_eq_getElem?_getD, List.getElem?_eq_getElem hjl]
      rfl
    rw [hS]
    have hx := hv.at_ j hjl
    have rv := (hv.range j hjl)
    have tm := h.med.there k hk
    have hD := h.drew.medSet k hk _ hx
    have cD := hD.c0
    have rD := World.rangeAt_setCells_apart (w := w.drew) rv mb (k * 64) (secCells (S.since k)[j]) (.inl (h.apart k hne))
    have tD := World.there_setCells (w := w.drew) tm mb (k * 64) (secCells (S.since k)[j])
    have T := Lib.hid ((Turn.refl fp w.drew).setCells h.fm (k * 64) (secCells (S.since k)[j]))
    have HD := Lib.hid hD
    have hlc : (secCells (S.since k)[j]).length = 64 := by rw [secCells_len, hx]
    have h1c := secCells_one (S.since k)[j]
    have hu := Try.underlying64
    have hi : (Try.prog.info? 64).map (·.size) = some (secCells (S.since k)[j]).length := by
      obtain ⟨i, z, hi, _, hs, _⟩ := info_sec
      rw [hi, hlc, ← hs]; rfl
    rw [hj] at hrest
    simp only [List.length_set] at cD
    clear hS hv hx hD h hz hj hm0 hm1 hac
    generalize (S.since k)[j] = x at *
    generalize ({ S with med := S.med.set k x } : Dv) = S' at *
    generalize secCells x = cs at *
    generalize (S.since k).length = q at *
    generalize S.med.length = N at *
    generalize (hd k).1 = g at *
    generalize (hd k).2 = c at *
    unfold maxLen at hcm
    go_enter Try.func32, Try.ntmps32
    go_wp2_with fail
    refine (hrest _).mono ?_
    rintro e w1 ⟨rfl, rfl⟩
    clear hrest
    go_wp2_with fail
    have q1 : IntKind.i64.wrap ((j : Int) + 1 - 1) = (j : Int) := by rw [show (j : Int) + 1 - 1 = j by omega]; exact IntWalk.i64_in _ (by omega)
    have q2 : IntKind.i64.wrap (j : Int) = (j : Int) := IntWalk.i64_in _ (by omega)
    have q3 : (j : Int) < (q : Int) := by omega
    have q4 : (k : Int) < (N : Int) := by omega
    go_region_held3 (fun w' => w'.cell? ⟨b, 0, none⟩ = some (.slice (some ⟨mb, 0, none⟩) N N) ∧ w'.rangeAt g (j * 64) cs ∧ w'.there mb (k * 64) 64) (first | exact ⟨c0, rv, tm⟩ | exact ⟨cD, rD, tD⟩) (first | fail)
    all_goals
      go_wp2
      go_end0
      exact ⟨rfl, HD.out, (Turn.of_below (Below.refl _ w).drew).trans T.out fun _ h => .inl h⟩
end Go.Proofs.Ytmkheikllbjcbaa
