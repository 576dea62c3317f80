/-
  What each call does to a device of the law's own, whatever its arguments; few; awake.
-/
import Derived.Test.YtmkheikllbjcbaaDp
namespace Go.Proofs.Ytmkheikllbjcbaa
open Go.RowKit Go.Maps

/-- Block b is a device S of the law's own: all its blocks lie from B on. -/
def DevL (B : Nat) (w : World) (b : Nat) (S : Dv) : Prop := ∃ fp, DevAt w b S fp ∧ ∀ k, fp k → B ≤ k
theorem DevL.ok {B : Nat} {w : World} {b : Nat} {S : Dv} (h : DevL B w b S) : DvOk S := by
  obtain ⟨fp, h, _⟩ := h
  exact h.ok
theorem DevL.below {B : Nat} {w w' : World} {b : Nat} {S : Dv} (h : DevL B w b S) (hb : Below w.heap.size w w') : DevL B w' b S := by
  obtain ⟨fp, h, h2⟩ := h
  exact ⟨fp, h.below hb, h2⟩
theorem Did.law {fp : Nat → Prop} {B b : Nat} {S' : Dv} {w w' : World} (h : Did fp b S' w w') (hf : ∀ k, fp k → B ≤ k) (hB : B ≤ w.heap.size) : DevL B w' b S' ∧ Below B w w' := by
  obtain ⟨fp', h1, h2, h3⟩ := h
  exact ⟨⟨fp', h1, fun k hk => by rcases h2 k hk with h | h; exact hf k h; omega⟩, h3.below hf hB⟩

def Dv.writeE (S : Dv) (k : Int) : Int := if reachE S k = 0 then (if S.pass then 0 else 6) else reachE S k
def Dv.write (S : Dv) (k : Int) (x : Sec) : Dv := if reachE S k = 0 ∧ S.pass = true then S.spent.put k.toNat x else S
def Dv.flushE (S : Dv) : Int := if S.lost then 6 else if S.pass then 0 else 6
def Dv.doFlush (S : Dv) : Dv := if S.lost = false ∧ S.pass = true then S.spent.flush else S
def Dv.doCrash (S : Dv) (l : List Int) : Dv := if S.lost then S else S.crash l
def Dv.readV (S : Dv) (k : Int) : Value := if reachE S k = 0 then .tuple #[.string (strOf (S.now k.toNat)), .int .i64 0] else .tuple #[.string ⟨#[]⟩, .int .i64 (reachE S k)]
def Dv.spoilB (S : Dv) (k : Int) (c : UInt8) : Bool := decide (c ≠ 0) && decide (reachE S k = 0)
def Dv.spoil (S : Dv) (k p : Int) (c : UInt8) : Dv := if S.spoilB k c then S.turn k.toNat (spoilt (S.now k.toNat) (p % 64).toNat c) else S

theorem reach_zero {S : Dv} {k : Int} (h : reachE S k = 0) : S.lost = false ∧ ∃ j : Nat, k = j ∧ j < S.med.length := by
  unfold reachE at h
  split at h
  · omega
  · rename_i hl
    split at h
    · omega
    · rename_i hk
      exact ⟨by simpa using hl, k.toNat, by omega, by omega⟩
theorem reach_ok {S : Dv} {j : Nat} (hl : S.lost = false) (hj : j < S.med.length) : reachE S (j : Int) = 0 := by
  unfold reachE; rw [hl]; simp; omega
theorem strOf_size (x : Sec) : (strOf x).size = x.length := by simp [strOf, ByteArray.size]
theorem strOf_list (x : Sec) : (strOf x).data.toList = x := by simp [strOf]
theorem newL (n : Nat) (B : Nat) (w : World) (h1 : 1 ≤ n) (h2 : n ≤ 4096) (hB : B ≤ w.heap.size) :
    Calls Try.prog 12 #[.int .i64 (n : Int)] w fun e w' => ∃ b, e = .returned (.tuple #[.pointer (some ⟨b, 0, none⟩), .int .i64 0]) ∧ DevL B w' b (newDv n) ∧ Below B w w' :=
  (new_ok n w h1 h2).mono fun _ _ ⟨he, h3, h4⟩ => ⟨_, he, ⟨_, h3, fun _ hk => Nat.le_trans hB hk.1⟩, h4.mono hB⟩
theorem writeL (B b : Nat) (S : Dv) (k : Int) (x : Sec) (w : World) (h : DevL B w b S) (hB : B ≤ w.heap.size) (hx : x.length = 64) (hc : S.cnt < 4294967296) :
    Calls Try.prog 13 #[.pointer (some ⟨b, 0, none⟩), .int .i64 k, .string (strOf x)] w fun e w' => e = .returned (.int .i64 (S.writeE k)) ∧ DevL B w' b (S.write k x) ∧ Below B w w' := by
  obtain ⟨fp, hd, hf⟩ := h
  unfold Dv.writeE Dv.write
  by_cases hr : reachE S k = 0
  · obtain ⟨hl, j, rfl, hj⟩ := reach_zero hr
    by_cases hp : S.pass = true
    · have := write_ok b S fp j (strOf x) w hd hl hj (by rw [strOf_size, hx]) hp hc
      rw [strOf_list] at this
      simp only [hr, hp, if_true, and_self]
      exact this.mono fun _ _ ⟨he, hdid⟩ => ⟨he, hdid.law hf hB⟩
    · have hp' : S.pass = false := by simpa using hp
      simp only [hr, hp', if_true]
      exact (write_fuse b S fp _ (strOf x) w hd hr (by rw [strOf_size, hx]) hp').mono fun _ _ ⟨he, hdid⟩ => ⟨by simpa using he, by simpa using hdid.law hf hB⟩
  · simp only [if_neg hr]
    exact (write_no b S fp k (strOf x) w hd hr).mono fun _ _ ⟨he, hw⟩ => ⟨he, by simpa [hr] using ⟨fp, hw ▸ hd, hf⟩, hw ▸ Below.refl _ _⟩
theorem flushLw (B b : Nat) (S : Dv) (w : World) (h : DevL B w b S) (hB : B ≤ w.heap.size) (hc : S.cnt ≤ 4294967296) :
    Calls Try.prog 15 #[.pointer (some ⟨b, 0, none⟩)] w fun e w' => e = .returned (.int .i64 S.flushE) ∧ DevL B w' b S.doFlush ∧ Below B w w' := by
  obtain ⟨fp, hd, hf⟩ := h
  unfold Dv.flushE Dv.doFlush
  by_cases hl : S.lost = true
  · exact (flush_lost b S fp w hd hl).mono fun _ _ ⟨he, hw⟩ => ⟨by simpa [hl] using he, by simpa [hl] using ⟨fp, hw ▸ hd, hf⟩, hw ▸ Below.refl _ _⟩
  · have hl' : S.lost = false := by simpa using hl
    by_cases hp : S.pass = true
    · exact (flush_ok b S fp w hd hl' hp hc).mono fun _ _ ⟨he, hdid⟩ => ⟨by simpa [hl', hp] using he, by simpa [hl', hp] using hdid.law hf hB⟩
    · have hp' : S.pass = false := by simpa using hp
      exact (flush_fuse b S fp w hd hl' hp').mono fun _ _ ⟨he, hdid⟩ => ⟨by simpa [hl', hp'] using he, by simpa [hl', hp'] using hdid.law hf hB⟩
theorem Ints.mono {fp fp' : Nat → Prop} {w : World} {v : Value} {l : List Int} (h : Ints fp w v l) (hf : ∀ k, fp' k → fp k) : Ints fp' w v l := h.turn (Turn.refl _ _) fun k hk => .inl (hf k hk)
theorem crashL (B b : Nat) (S : Dv) (v : Value) (l : List Int) (w : World) (h : DevL B w b S) (hB : B ≤ w.heap.size) (hc : S.cnt ≤ 4294967296) (hv : Ints (fun k => B ≤ k) w v l) :
    Calls Try.prog 17 #[.pointer (some ⟨b, 0, none⟩), v] w fun e w' => e = .returned (.tuple #[]) ∧ DevL B w' b (S.doCrash l) ∧ Below B w w' := by
  obtain ⟨fp, hd, hf⟩ := h
  unfold Dv.doCrash
  by_cases hl : S.lost = true
  · exact (crash_lost b S fp v w hd hl).mono fun _ _ ⟨he, hw⟩ => ⟨he, by simpa [hl] using ⟨fp, hw ▸ hd, hf⟩, hw ▸ Below.refl _ _⟩
  · have hl' : S.lost = false := by simpa using hl
    exact (crash_ok b S fp v l w hd hl' hc (hv.mono hf)).mono fun _ _ ⟨he, hdid⟩ => ⟨he, by simpa [hl'] using hdid.law hf hB⟩
theorem readL (B b : Nat) (S : Dv) (k : Int) (w : World) (h : DevL B w b S) :
    Calls Try.prog 16 #[.pointer (some ⟨b, 0, none⟩), .int .i64 k] w fun e w' => e = .returned (S.readV k) ∧ w = w' := by
  obtain ⟨fp, hd, hf⟩ := h
  unfold Dv.readV
  by_cases hr : reachE S k = 0
  · obtain ⟨hl, j, rfl, hj⟩ := reach_zero hr
    rw [if_pos hr]
    exact read_ok b S fp j w hd hl hj
  · rw [if_neg hr]
    exact read_no b S fp k w hd hr
theorem spoilL (B b : Nat) (S : Dv) (k p : Int) (c : UInt8) (w : World) (h : DevL B w b S) (hB : B ≤ w.heap.size) :
    Calls Try.prog 23 #[.pointer (some ⟨b, 0, none⟩), .int .i64 k, .int .i64 p, .int .u8 (c.toNat : Int)] w fun e w' => e = .returned (.bool (S.spoilB k c)) ∧ DevL B w' b (S.spoil k p c) ∧ Below B w w' := by
  obtain ⟨fp, hd, hf⟩ := h
  unfold Dv.spoil
  by_cases h0 : c = 0
  · subst h0
    have e : S.spoilB k 0 = false := by simp [Dv.spoilB]
    rw [e]
    exact (spoil_zero _ k p w).mono fun _ _ ⟨he, hw⟩ => ⟨he, ⟨fp, hw ▸ hd, hf⟩, hw ▸ Below.refl _ _⟩
  · by_cases hr : reachE S k = 0
    · have e : S.spoilB k c = true := by simp [Dv.spoilB, h0, hr]
      obtain ⟨hl, j, rfl, hj⟩ := reach_zero hr
      rw [e]
      exact (spoil_ok b S fp j p c w hd hl hj h0).mono fun _ _ ⟨he, hdid⟩ => ⟨he, hdid.law hf hB⟩
    · have e : S.spoilB k c = false := by simp [Dv.spoilB, hr]
      rw [e]
      refine (spoil_no b S fp k p _ w hd ?_ hr).mono fun _ _ ⟨he, hw⟩ => ⟨he, ⟨fp, hw ▸ hd, hf⟩, hw ▸ Below.refl _ _⟩
      simp
      intro e; apply h0; exact UInt8.toNat_inj.1 (by simpa using e)
theorem loseL (B b : Nat) (S : Dv) (w : World) (h : DevL B w b S) (hB : B ≤ w.heap.size) :
    Calls Try.prog 24 #[.pointer (some ⟨b, 0, none⟩)] w fun e w' => e = .returned (.tuple #[]) ∧ DevL B w' b { S.bare with lost := true } ∧ Below B w w' := by
  obtain ⟨fp, hd, hf⟩ := h
  exact (lose_any b S fp w hd).mono fun _ _ ⟨he, hdid⟩ => ⟨he, hdid.law hf hB⟩
theorem freshLw (B b : Nat) (S : Dv) (c : UInt8) (w : World) (h : DevL B w b S) (hB : B ≤ w.heap.size) :
    Calls Try.prog 25 #[.pointer (some ⟨b, 0, none⟩), .int .u8 (c.toNat : Int)] w fun e w' => e = .returned (.tuple #[]) ∧ DevL B w' b (S.fresh c) ∧ Below B w w' := by
  obtain ⟨fp, hd, hf⟩ := h
  exact (fresh_any b S fp c w hd).mono fun _ _ ⟨he, hdid⟩ => ⟨he, hdid.law hf hB⟩
theorem fuseL (B b : Nat) (S : Dv) (n : Int) (w : World) (h : DevL B w b S) (hB : B ≤ w.heap.size) (hn : n ≤ 9223372036854775807) :
    Calls Try.prog 26 #[.pointer (some ⟨b, 0, none⟩), .int .i64 n] w fun e w' => e = .returned (.tuple #[]) ∧ DevL B w' b { S with fused := true, left := n.toNat } ∧ Below B w w' := by
  obtain ⟨fp, hd, hf⟩ := h
  exact (fuse_any b S fp n w hd hn).mono fun _ _ ⟨he, hdid⟩ => ⟨he, hdid.law hf hB⟩
theorem lostL (B b : Nat) (S : Dv) (w : World) (h : DevL B w b S) :
    Calls Try.prog 27 #[.pointer (some ⟨b, 0, none⟩)] w fun e w' => e = .returned (.bool S.lost) ∧ w = w' := by
  obtain ⟨fp, hd, hf⟩ := h
  exact lost_any b S fp w hd
theorem secsL (B b : Nat) (S : Dv) (w : World) (h : DevL B w b S) :
    Calls Try.prog 28 #[.pointer (some ⟨b, 0, none⟩)] w fun e w' => e = .returned (.int .i64 S.med.length) ∧ w = w' := by
  obtain ⟨fp, hd, hf⟩ := h
  exact secs_any b S fp w hd
theorem cachedL (B b : Nat) (S : Dv) (w : World) (h : DevL B w b S) (hc : S.cnt ≤ 4294967296) :
    Calls Try.prog 18 #[.pointer (some ⟨b, 0, none⟩)] w fun e w' => ∃ v, e = .returned v ∧ OwnI w' w.heap.size v (S.keys.map Int.ofNat) ∧ Below w.heap.size w w' := by
  obtain ⟨fp, hd, hf⟩ := h
  exact cached_any b S fp w hd hc

theorem Acts.act {B : Nat} {w : World} {a : Option Addr} {n : Nat} {l : List ActV} (h : Acts B w a n l) {i : Nat} (hi : i < n) : ∃ x g o, l[i]? = some x ∧ a = some ⟨g, o, none⟩ ∧ IsAct B w g (o + i * 5) x := by
  obtain ⟨_, h2, h3⟩ := h
  have hi' : i < l.length := by omega
  obtain ⟨g, o, ha, hx⟩ := h3 i hi'
  exact ⟨_, g, o, List.getElem?_eq_getElem hi', ha, hx⟩
/-- few: true of few acts alone. -/
def FewPost (n : Nat) (w : World) (e : Ending) (w' : World) : Prop := ∃ x : Bool, e = .returned (.bool x) ∧ (x = true → n ≤ 80) ∧ w = w'
set_option maxHeartbeats 1000000 in
theorem few_any (B : Nat) (a : Option Addr) (n c : Nat) (l : List ActV) (w : World) (h : Acts B w a n l) :
    Calls Try.prog 11 #[.slice a n c] w (FewPost n w) := by
  have hm := h.1
  unfold maxLen at hm
  have HI := Lib.hid h
  clear h
  go_enter Try.func11, Try.ntmps11
  go_wp2_with fail
  go_loop [3] (fun u => ∃ t : Nat, t ≤ n ∧ t ≤ 81 ∧ u = .int .i64 (t : Int)) (fun u => 81 - (intOf u).toNat)
  case atStart => exact ⟨0, Nat.zero_le _, Nat.zero_le _, rfl⟩
  case round =>
    obtain ⟨t, ht, ht2, rfl⟩ := hrel
    by_cases hlt : t < n
    · have d1 : decide (t < n) = true := by simpa using hlt
      by_cases hle : t ≤ 80
      · have d2 : decide ((t : Int) ≤ 80) = true := by simp; omega
        obtain ⟨x, g, o, _, rfl, hx⟩ := HI.out.act hlt
        have c4 := hx.c4
        have hkl := hx.kl
        unfold maxLen at hkl
        clear hx
        generalize x.kn = kn at *
        generalize x.ka = ka at *
        generalize x.kc = kc at *
        by_cases hk : 80 < kn
        · have d3 : decide ((80 : Int) < (kn : Int)) = true := by simp; omega
          go_wp2
          go_ret
          exact ⟨false, rfl, (fun h => nomatch h), rfl⟩
        · have d3 : decide ((80 : Int) < (kn : Int)) = false := by simp; omega
          go_wp2
          go_round
          case rel => exact ⟨t + 1, by omega, by omega, by go_num⟩
          case measure => simp [intOf]; omega
      · have d2 : decide ((t : Int) ≤ 80) = false := by simp; omega
        go_wp2
        go_ret
        exact ⟨decide ((n : Int) ≤ 80), rfl, (fun h => by simp at h; omega), rfl⟩
    · have d1 : decide (t < n) = false := by simpa using hlt
      go_wp2
      go_ret
      exact ⟨decide ((n : Int) ≤ 80), rfl, (fun h => by simp at h; omega), rfl⟩
end Go.Proofs.Ytmkheikllbjcbaa
