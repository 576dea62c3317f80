/-
  vdev's here, Right and put.
  Spoil of one of a pool's devices.
  vdev.Right of a pool's devices; put.
  vdev.put: a column is written, where its device is here.
-/
import Derived.Test.YtiffkbmcikiioaaGreatY18
import Derived.Test.YtiffkbmcikiioaaGreatY03
import Derived.Test.YtiffkbmcikiioaaGreatY16
import Derived.Test.YtiffkbmcikiioaaGreatY06

/- vdev's here, Right and put. -/
namespace Go.Proofs.YtiffkbmcikiioaaGreat
set_option maxRecDepth 100000
open Go.RowKit Go.Maps

def hereB (ds : Nat → Dv) (aw : Nat → Bool) (d : Nat) : Bool := !aw d && !(ds d).lost
/-- A box that holds a pool's devices. -/
structure BoxX (x : Px) (b : Nat) (w : World) : Prop where
  c0 : w.cell? ⟨b, 0, none⟩ = some (.slice x.ga x.gn x.gc)
  c1 : w.cell? ⟨b, 1, none⟩ = some (.int .i64 x.sc)
  c2 : w.cell? ⟨b, 2, none⟩ = some (.slice (some ⟨x.lb, 0, none⟩) x.n x.n)
  c3 : w.cell? ⟨b, 3, none⟩ = some (.slice (some ⟨x.ab, 0, none⟩) x.n x.n)
theorem RightM.devs {l : List (Int × Int)} {s : Int} (h : RightM l s) {n : Nat} (hn : devsL l s = (n : Int)) : 1 ≤ n ∧ n ≤ 32 := by
  have hr : rightL l s = true := rightM_iff.2 h
  unfold devsL at hn
  rw [hr, if_pos rfl] at hn
  have := h.bounds l.length (Nat.le_refl _)
  have h1 := h.pos
  have h4 := h.few
  omega

section
variable {X : Nat → Prop} {B : Nat} {w : World} {x : Px} {l : List (Int × Int)} {ds : Nat → Dv} {aw : Nat → Bool} {K : Nat} {P : World → Prop}
set_option maxHeartbeats 1000000 in
theorem here_any (h : StX X B w x l ds aw K P) (d : Nat) (hd : d < x.n) :
    Calls Tryz.prog 46 #[x.val, .int .i64 (d : Int)] w fun e w' => e = .returned (.bool (hereB ds aw d)) ∧ Below w.heap.size w w' := by
  obtain ⟨h1, h32⟩ := h.right.1.devs h.right.2
  have hb := boxed w (.cells #[.slice x.ga x.gn x.gc, .int .i64 x.sc, .slice (some ⟨x.lb, 0, none⟩) x.n x.n, .slice (some ⟨x.ab, 0, none⟩) x.n x.n] 37)
  have h' := h.below hb
  obtain ⟨b, f, cl, hdv⟩ := h'.at_ hd
  have ca := (h'.away hd).1
  have hL := lost_any b (ds d) f _ hdv
  have HB := Lib.hid hb
  unfold hereB
  generalize (ds d).lost = L at *
  generalize aw d = A at *
  clear h h' hdv hb
  unfold Px.val
  obtain ⟨ga, gn, gc, sc, lb, n, ab⟩ := x
  simp only at *
  cases A
  · go_enter Tryz.func46, Tryz.ntmps46
    go_wp2_with fail
    refine hL.mono ?_
    rintro e w1 ⟨rfl, rfl⟩
    go_wp2
    go_ret
    exact ⟨rfl, HB.out⟩
  · go_enter Tryz.func46, Tryz.ntmps46
    go_wp2
    go_ret
    exact ⟨rfl, HB.out⟩

/-- The closure of Right: of no device of ours. -/
theorem rpred_any (h : StX X B w x l ds aw K P) (i : Nat) (hi : i < x.n) (b b0 : Nat) (f : Nat → Prop) (hd : DevAt w b (ds i) f) (h1 : w.cell? ⟨b0, 1, none⟩ = some (.int .i64 x.sc)) :
    Calls Tryz.prog 64 #[.pointer (some ⟨b, 0, none⟩), .pointer (some ⟨b0, 0, none⟩)] w fun e w' => e = .returned (.bool false) ∧ Below w.heap.size w w' := by
  have hl := (h.good hi).len
  have HS := Lib.hid (fun n => quiet_same (secs_any b (ds i) f (w.drewN n) (hd.below (below_drewN (Below.refl _ _) n))))
  rw [hl] at HS
  have hs : (x.sc != x.sc) = false := by simp
  generalize x.sc = sc at *
  clear h hd hl
  go_enter Tryz.func64, Tryz.ntmps64
  go_wp2_with fail
  go_quiet ((go_at_call 65; exact HS.out _))
  go_wp2
  go_ret
  exact ⟨rfl, by with_reducible (first | exact Below.refl _ _ | exact (Below.refl _ _).drew | exact below_drewN (Below.refl _ _) _)⟩
end
end Go.Proofs.YtiffkbmcikiioaaGreat

/- Spoil of one of a pool's devices. -/
namespace Go.Proofs.YtiffkbmcikiioaaGreat
set_option maxRecDepth 100000
open Go.RowKit Go.Maps M

def spoilB8 (S : Dv) (k : Int) (c : UInt8) : Bool := decide (c ≠ 0) && decide (reachE S k = 0)
/-- A device behind Spoil. -/
def spoilD8 (S : Dv) (k p : Int) (c : UInt8) : Dv := if spoilB8 S k c then S.turn k.toNat (spoilt (S.now k.toNat) (p % 64).toNat c) else S
theorem turn_same (S : Dv) (k : Nat) (x : Sec) : (S.turn k x).lost = S.lost ∧ (S.turn k x).fused = S.fused ∧ (S.turn k x).cnt = S.cnt ∧ (S.turn k x).med.length = S.med.length := by
  unfold Dv.turn
  split
  · exact ⟨rfl, rfl, rfl, List.length_set⟩
  · exact ⟨rfl, rfl, rfl, rfl⟩
theorem spoilD8_same (S : Dv) (k p : Int) (c : UInt8) : (spoilD8 S k p c).lost = S.lost ∧ (spoilD8 S k p c).fused = S.fused ∧ (spoilD8 S k p c).cnt = S.cnt ∧ (spoilD8 S k p c).med.length = S.med.length := by
  unfold spoilD8
  split
  · exact turn_same _ _ _
  · exact ⟨rfl, rfl, rfl, rfl⟩
theorem turn_now (S : Dv) (k : Nat) (hk : k < S.med.length) (x : Sec) (j : Nat) : (S.turn k x).now j = if j = k then x else S.now j := by
  unfold Dv.turn Dv.now
  by_cases e : S.since k = []
  · simp only [if_pos e]
    by_cases ej : j = k
    · subst ej
      rw [e, if_pos rfl, List.getLastD_nil, List.getD_eq_getElem?_getD, List.getElem?_set_self hk]
      rfl
    · rw [if_neg ej, List.getD_eq_getElem?_getD, List.getElem?_set_ne (fun h => ej h.symm), List.getD_eq_getElem?_getD]
  · simp only [if_neg e]
    by_cases ej : j = k
    · subst ej
      rw [if_pos rfl, if_pos rfl]
      have hne : (S.since j).set ((S.since j).length - 1) x ≠ [] := fun h => e (by
        have := congrArg List.length h
        rw [List.length_set] at this
        exact List.eq_nil_of_length_eq_zero this)
      have hp : 0 < (S.since j).length := List.length_pos_iff.2 e
      rw [List.getLastD_eq_getLast?, List.getLast?_eq_some_getLast hne, List.getLast_eq_getElem]
      simp
    · rw [if_neg ej, if_neg ej]
section
variable {X : Nat → Prop} {B : Nat} {w : World} {x : Px} {l : List (Int × Int)} {ds : Nat → Dv} {aw : Nat → Bool} {K : Nat} {P : World → Prop}
theorem spoil8_any (h : StX X B w x l ds aw K P) {i : Nat} (hi : i < x.n) (k p : Int) (c : UInt8) :
    ∃ b, w.cell? ⟨x.lb, i, none⟩ = some (.pointer (some ⟨b, 0, none⟩)) ∧ ∀ w4, Below w.heap.size w w4 → Calls Tryz.prog 10 #[.pointer (some ⟨b, 0, none⟩), .int .i64 k, .int .i64 p, .int .u8 (c.toNat : Int)] w4 fun e w' =>
      ∃ v, e = .returned (.bool v) ∧ StX X B w' x l (upd ds i (spoilD8 (ds i) k p c)) aw K P ∧ Below B w4 w' ∧ w'.heap[x.lb]? = w4.heap[x.lb]? := by
  obtain ⟨b, f, hb, _⟩ := h.at_ hi
  refine ⟨b, hb, fun w4 b4 => ?_⟩
  have h4 := h.below b4
  obtain ⟨b', f', hb', hd', hdid⟩ := h4.did hi
  have e : b' = b := by
    rw [(b4.cell (p := ⟨x.lb, i, none⟩) (World.block_lt_of_cell? w _ hb)).trans hb] at hb'
    cases hb'
    rfl
  subst e
  have hno : spoilB8 (ds i) k c = false → StX X B w4 x l (upd ds i (spoilD8 (ds i) k p c)) aw K P := fun e => by
    unfold spoilD8
    rw [e, if_neg (by simp), upd_self]
    exact h4
  by_cases hc : c = 0
  · subst hc
    refine (spoil_zero (.pointer (some ⟨b', 0, none⟩)) k p w4).mono ?_
    rintro e w' ⟨rfl, rfl⟩
    exact ⟨false, rfl, hno (by unfold spoilB8; simp), Below.refl _ _, rfl⟩
  · have hc0 : ((c.toNat : Int) == 0) = false := by
      simp
      intro e; apply hc; exact UInt8.toNat_inj.1 (by simpa using e)
    by_cases hr : reachE (ds i) k = 0
    · have hr' := hr
      unfold reachE at hr'
      split at hr'
      · omega
      · rename_i hl
        split at hr'
        · omega
        · rename_i hk
          obtain ⟨k', rfl⟩ : ∃ k' : Nat, k = (k' : Int) := ⟨k.toNat, by omega⟩
          have hB8 : spoilB8 (ds i) (k' : Int) c = true := by unfold spoilB8; rw [hr]; simp [hc]
          have hg := h.good hi
          refine (spoil_ok b' (ds i) f' k' p c w4 hd' (by simpa using hl) (by omega) hc).mono ?_
          rintro e w' ⟨rfl, hdd⟩
          have hs := turn_same (ds i) k' (spoilt ((ds i).now k') (p % 64).toNat c)
          obtain ⟨h5, b5, l5, _⟩ := hdid _ w' K hdd ⟨by rw [hs.2.1]; exact hg.fused, by rw [hs.2.2.2]; exact hg.len, by rw [hs.2.2.1]; exact hg.cnt⟩ (Nat.le_refl _)
          refine ⟨true, rfl, ?_, b5, l5⟩
          unfold spoilD8
          rw [hB8, if_pos rfl, Int.toNat_natCast]
          exact h5
    · refine (spoil_no b' (ds i) f' k p (c.toNat : Int) w4 hd' hc0 hr).mono ?_
      rintro e w' ⟨rfl, rfl⟩
      exact ⟨false, rfl, hno (by unfold spoilB8; simp [hr]), Below.refl _ _, rfl⟩
end
theorem hereB_spoil (ds : Nat → Dv) (aw : Nat → Bool) (i : Nat) (k p : Int) (c : UInt8) : hereB (upd ds i (spoilD8 (ds i) k p c)) aw = hereB ds aw := by
  funext j
  unfold hereB upd
  by_cases e : j = i
  · subst e
    rw [if_pos rfl, (spoilD8_same _ _ _ _).1]
  · rw [if_neg e]
end Go.Proofs.YtiffkbmcikiioaaGreat

/- vdev.Right of a pool's devices; put. -/
namespace Go.Proofs.YtiffkbmcikiioaaGreat
set_option maxRecDepth 100000
open Go.RowKit Go.Maps

section
variable {X : Nat → Prop} {B : Nat} {w : World} {x : Px} {l : List (Int × Int)} {ds : Nat → Dv} {aw : Nat → Bool} {K : Nat} {P : World → Prop}
set_option maxHeartbeats 1000000 in
theorem rindex_any (h : StX X B w x l ds aw K P) (b0 : Nat) (h1 : w.cell? ⟨b0, 1, none⟩ = some (.int .i64 x.sc)) :
    Calls Tryz.prog 88 #[.slice (some ⟨x.lb, 0, none⟩) x.n x.n, .func (.func 64) #[] #[.pointer (some ⟨b0, 0, none⟩)]] w fun e w' =>
      e = .returned (.int .i64 (-1)) ∧ Below w.heap.size w w' := by
  obtain ⟨_, h32⟩ := h.right.1.devs h.right.2
  have HS := Lib.hid h
  have hb0 := World.block_lt_of_cell? w _ h1
  have H1 := Lib.hid h1
  clear h h1
  generalize hn : x.n = n at h32
  generalize hlb : x.lb = lb
  have HN := Lib.hid hn
  have HLB := Lib.hid hlb
  clear hn hlb
  go_enter Tryz.func88, Tryz.ntmps88
  go_wp2_with fail
  go_loopw [8] (fun i wr => ∃ k : Nat, k ≤ n ∧ i = .int .i64 k ∧ Below w.heap.size w wr) (fun i _ => n - (intOf i).toNat)
  case atStart => exact ⟨0, Nat.zero_le _, rfl, Below.refl _ _⟩
  case round =>
    obtain ⟨k, hk, rfl, hb⟩ := hrel
    by_cases hlt : k < n
    · have h' := HS.out.below hb
      obtain ⟨b, f, cl, hd⟩ := h'.at_ (i := k) (by rw [HN.out]; exact hlt)
      rw [HLB.out] at cl
      have HC := Lib.hid (rpred_any h' k (by rw [HN.out]; exact hlt) b b0 f hd ((hb.cell (p := ⟨b0, 1, none⟩) hb0).trans H1.out))
      clear h' hd
      go_wp2_with fail
      refine HC.out.mono ?_
      rintro e w1 ⟨rfl, b1⟩
      go_wp2
      go_roundw
      case rel => exact ⟨k + 1, by omega, by go_num, next hb b1⟩
      case measure => simp [intOf]; omega
    · go_wp2
      go_ret
      exact ⟨rfl, hb⟩
theorem rcontains_any (h : StX X B w x l ds aw K P) (b0 : Nat) (h1 : w.cell? ⟨b0, 1, none⟩ = some (.int .i64 x.sc)) :
    Calls Tryz.prog 63 #[.slice (some ⟨x.lb, 0, none⟩) x.n x.n, .func (.func 64) #[] #[.pointer (some ⟨b0, 0, none⟩)]] w fun e w' =>
      e = .returned (.bool false) ∧ Below w.heap.size w w' := by
  have hI := Lib.hid (rindex_any h b0 h1)
  clear h h1
  go_enter Tryz.func63, Tryz.ntmps63
  go_wp2_with fail
  refine hI.out.mono ?_
  rintro e w1 ⟨rfl, b1⟩
  go_wp2
  go_ret
  exact ⟨rfl, b1⟩
theorem New.block (w : World) (o : Obj) (B : Nat) (hB : B ≤ w.heap.size) : New B (w.alloc o) (fun w' => w'.heap[w.heap.size]? = some o) := fun w' _ hb =>
  (hb w.heap.size hB (by simp)).trans (heap_alloc_new w o)
theorem BoxX.new (w : World) (x : Px) (B : Nat) (hB : B ≤ w.heap.size) (t : TypeId) : New B (w.alloc (.cells #[.slice x.ga x.gn x.gc, .int .i64 x.sc, .slice (some ⟨x.lb, 0, none⟩) x.n x.n, .slice (some ⟨x.ab, 0, none⟩) x.n x.n] t)) (BoxX x w.heap.size) :=
  (New.block w _ B hB).mono fun w' e => ⟨by simp [World.cell?, e], by simp [World.cell?, e], by simp [World.cell?, e], by simp [World.cell?, e]⟩
set_option maxHeartbeats 1000000 in
theorem right8_any (h : StX X B w x l ds aw K P) : Calls Tryz.prog 35 #[x.val] w fun e w' => e = .returned (.bool true) ∧ Below w.heap.size w w' := by
  obtain ⟨hp, h32⟩ := h.right.1.devs h.right.2
  have hb := boxed w (.cells #[.slice x.ga x.gn x.gc, .int .i64 x.sc, .slice (some ⟨x.lb, 0, none⟩) x.n x.n, .slice (some ⟨x.ab, 0, none⟩) x.n x.n] 37)
  have H1 := Lib.hid (h.add hb (BoxX.new w x _ (Nat.le_refl _) _))
  have HD := Lib.hid (devs_any l x.sc x.g _ H1.out.meas _ h.right.2)
  have HB := Lib.hid hb
  clear h hb
  have hn0 : ((x.n : Int) == 0) = false := by simp; omega
  have hnn : ((x.n : Int) != (x.n : Int)) = false := by simp
  unfold Px.val
  unfold Px.g at HD
  go_enter Tryz.func35, Tryz.ntmps35
  go_wp2_with fail
  refine HD.out.mono ?_
  rintro e w1 ⟨rfl, b1⟩
  have H2 := Lib.hid (H1.out.below b1)
  have HB2 := Lib.hid (next HB.out b1)
  clear b1 H1 HD HB
  have hx := H2.out.out.2
  have c0 := hx.c0
  have c1 := hx.c1
  have c2 := hx.c2
  have c3 := hx.c3
  have HC := Lib.hid (rcontains_any H2.out _ hx.c1)
  clear hx
  go_wp2_with fail
  refine HC.out.mono ?_
  rintro e w2 ⟨rfl, b2⟩
  go_wp2
  go_ret
  exact ⟨rfl, next HB2.out b2⟩
end
end Go.Proofs.YtiffkbmcikiioaaGreat

/- vdev.put: a column is written, where its device is here. -/
namespace Go.Proofs.YtiffkbmcikiioaaGreat
set_option maxRecDepth 100000
open Go.RowKit Go.Maps

section
variable {X : Nat → Prop} {B : Nat} {w : World} {x : Px} {l : List (Int × Int)} {ds : Nat → Dv} {aw : Nat → Bool} {K : Nat} {P : World → Prop}
theorem spent_self {S : Dv} (h : S.fused = false) : S.spent = S ∧ S.pass = true := by
  refine ⟨?_, by simp [Dv.pass, h]⟩
  unfold Dv.spent
  rw [h]
  cases S
  simp_all
theorem wr_any (h : StX X B w x l ds aw K P) {i : Nat} (hi : i < x.n) (hl : (ds i).lost = false) (a : Nat) (ha : (a : Int) < x.sc) (s : ByteArray) (hs : s.size = 64) (hK : K < 4294967295) :
    ∃ b, w.cell? ⟨x.lb, i, none⟩ = some (.pointer (some ⟨b, 0, none⟩)) ∧ ∀ w4, Below w.heap.size w w4 → Calls Tryz.prog 87 #[.pointer (some ⟨b, 0, none⟩), .int .i64 (a : Int), .string s] w4 fun e w' =>
      e = .returned (.int .i64 0) ∧ StX X B w' x l (upd ds i ((ds i).put a s.data.toList)) aw (K + 1) P ∧ Below B w4 w' ∧ w'.heap[x.lb]? = w4.heap[x.lb]? ∧ ∀ k, X k → w'.heap[k]? = w4.heap[k]? := by
  obtain ⟨b, f, hb, _⟩ := h.at_ hi
  refine ⟨b, hb, fun w4 b4 => ?_⟩
  have h4 := h.below b4
  obtain ⟨b', f', hb', hd', hdid⟩ := h4.did hi
  have hlt := World.block_lt_of_cell? w _ hb
  have e := (b4.cell (p := ⟨x.lb, i, none⟩) hlt).trans hb
  rw [hb'] at e
  simp only [Option.some.injEq, Value.pointer.injEq, Addr.mk.injEq, and_true] at e
  subst e
  have hg := h.good hi
  obtain ⟨e1, e2⟩ := spent_self hg.fused
  have hlen := hg.len
  have hcnt := hg.cnt
  have hw := write_ok b' (ds i) f' a s w4 hd' hl (by omega) hs e2 (by omega)
  rw [e1] at hw
  refine hw.mono fun e w' ⟨he, hd⟩ => ⟨he, hdid _ w' (K + 1) hd ⟨hg.fused, hg.len, by show _ + 1 ≤ _; omega⟩ (by omega)⟩
/-- A box that holds a column. -/
structure BoxC (c : C) (b : Nat) (w : World) : Prop where
  c0 : w.cell? ⟨b, 0, none⟩ = some (.int .i64 c.dev)
  c1 : w.cell? ⟨b, 1, none⟩ = some (.int .i64 c.at_)
  c2 : w.cell? ⟨b, 2, none⟩ = some (.bool c.par)
  c3 : w.cell? ⟨b, 3, none⟩ = some (.int .i64 c.row)
theorem BoxC.new (w : World) (c : C) (B : Nat) (hB : B ≤ w.heap.size) (t : TypeId) : New B (w.alloc (.cells #[.int .i64 c.dev, .int .i64 c.at_, .bool c.par, .int .i64 c.row] t)) (BoxC c w.heap.size) :=
  (New.block w _ B hB).mono fun w' e => ⟨by simp [World.cell?, e], by simp [World.cell?, e], by simp [World.cell?, e], by simp [World.cell?, e]⟩
/-- What becomes of the devices as a column is put. -/
def putD (ds : Nat → Dv) (aw : Nat → Bool) (d a : Nat) (s : ByteArray) : Nat → Dv := if hereB ds aw d then upd ds d ((ds d).put a s.data.toList) else ds
theorem hereB_put (ds : Nat → Dv) (aw : Nat → Bool) (d a : Nat) (s : ByteArray) : hereB (putD ds aw d a s) aw = hereB ds aw := by
  unfold putD
  split
  · funext j
    unfold hereB upd
    by_cases e : j = d
    · subst e; simp [Dv.put]
    · simp [e]
  · rfl

set_option maxHeartbeats 2000000 in
theorem put_any (h : StX X B w x l ds aw K P) (c : C) (d a : Nat) (hcd : c.dev = (d : Int)) (hd : d < x.n) (hca : c.at_ = (a : Int)) (ha : (a : Int) < x.sc) (s : ByteArray) (hs : s.size = 64) (hK : K < 4294967295) :
    Calls Tryz.prog 59 #[x.val, c.val, .string s] w fun e w' => e = .returned (.bool (hereB ds aw d)) ∧ StX X B w' x l (putD ds aw d a s) aw (K + 1) P ∧ Below B w w' ∧ ∀ k, X k → w'.heap[k]? = w.heap[k]? := by
  obtain ⟨_, h32⟩ := h.right.1.devs h.right.2
  have hB := h.lt.2
  have hXl := h.lt.1
  have b1 := boxed w (.cells #[.slice x.ga x.gn x.gc, .int .i64 x.sc, .slice (some ⟨x.lb, 0, none⟩) x.n x.n, .slice (some ⟨x.ab, 0, none⟩) x.n x.n] 37)
  have H1 := h.add b1 (BoxX.new w x _ (Nat.le_refl _) _)
  have hz1 : (w.alloc (.cells #[.slice x.ga x.gn x.gc, .int .i64 x.sc, .slice (some ⟨x.lb, 0, none⟩) x.n x.n, .slice (some ⟨x.ab, 0, none⟩) x.n x.n] 37)).heap.size = w.heap.size + 1 := by simp
  generalize hw1 : w.alloc (.cells #[.slice x.ga x.gn x.gc, .int .i64 x.sc, .slice (some ⟨x.lb, 0, none⟩) x.n x.n, .slice (some ⟨x.ab, 0, none⟩) x.n x.n] 37) = w1 at b1 H1 hz1
  have b2 := boxed w1 (.cells #[.int .i64 c.dev, .int .i64 c.at_, .bool c.par, .int .i64 c.row] 75)
  have H2 := H1.add b2 (BoxC.new w1 c _ (Nat.le_refl _) _)
  rw [hz1] at H2
  generalize hw2 : w1.alloc (.cells #[.int .i64 c.dev, .int .i64 c.at_, .bool c.par, .int .i64 c.row] 75) = w2 at b2 H2
  have bb := next b1 b2
  have HH : Hid (∀ w4, Below w2.heap.size w2 w4 → Calls Tryz.prog 46 #[x.val, .int .i64 (d : Int)] w4 fun e w' => e = .returned (.bool (hereB ds aw d)) ∧ Below w4.heap.size w4 w') := Lib.hid fun w4 b4 => here_any (H2.below b4) d hd
  have HST := Lib.hid H2
  have HBB := Lib.hid bb
  have HHB := Lib.hid hB
  have HXL := Lib.hid hXl
  obtain ⟨⟨⟨_, x0, x1, x2, x3⟩, y0, y1, y2, y3⟩, hz2⟩ : ((P w2 ∧ BoxX x w.heap.size w2) ∧ BoxC c (w.heap.size + 1) w2) ∧ w2.heap.size = w.heap.size + 2 := ⟨H2.out, by rw [← hw2]; simp [hz1]⟩
  rw [hcd] at y0
  rw [hca] at y1
  rw [hcd, hca] at hw2
  have HW1 := Lib.hid hw1
  have HW2 := Lib.hid hw2
  have lx : w.heap.size < w2.heap.size := by omega
  have ly : w.heap.size + 1 < w2.heap.size := by omega
  clear h H1 H2 b1 b2 bb hB hXl hz1 hw1 hw2
  unfold C.val Px.val
  unfold Px.val at HH
  rw [hcd, hca]
  cases hh : hereB ds aw d with
  | false =>
    rw [hh] at HH
    have HD : Hid (putD ds aw d a s = ds) := Lib.hid (by unfold putD; rw [hh]; rfl)
    clear hh
    have CH : Hid (∀ q : Ext w2, Calls Tryz.prog 46 #[.agg #[.slice x.ga x.gn x.gc, .int .i64 x.sc, .slice (some ⟨x.lb, 0, none⟩) x.n x.n, .slice (some ⟨x.ab, 0, none⟩) x.n x.n], .int .i64 (d : Int)] q.v fun e w' => e = .returned (.bool false) ∧ ∃ q' : Ext w2, w' = q'.v) := Lib.hid (Ext.calls HH.out)
    have g0 := fun q : Ext w2 => q.cell x0 lx
    have g1 := fun q : Ext w2 => q.cell x1 lx
    have g2 := fun q : Ext w2 => q.cell x2 lx
    have g3 := fun q : Ext w2 => q.cell x3 lx
    have g4 := fun q : Ext w2 => q.cell y0 ly
    go_enter Tryz.func59, Tryz.ntmps59
    go_wp2_with fail
    rw [HW1.out, HW2.out]
    haveI hne : Nonempty (Ext w2) := Ext.some w2
    refine wp_region_family (Ext.v (W := w2)) (by kernel_rfl) (by kernel_rfl) ⟨⟨_, (Below.refl _ w2).drew⟩, rfl⟩ ?_
    repeat (go_big_quiet_step (first | (go_at_call 46; exact CH.out _)))
    refine wpQuiet_nil ?_
    rintro w7 ⟨⟨w4, K4⟩, rfl⟩
    go_wp2
    go_ret
    refine ⟨rfl, ?_, (HBB.out.trans (K4.mono HBB.out.size)).mono HHB.out, fun k hk => ?_⟩
    · rw [HD.out]
      exact ((HST.out.below K4).mono fun w h => h.1.1).more (Nat.le_succ _)
    · exact (K4.block k (Nat.lt_of_lt_of_le (HXL.out k hk) HBB.out.size)).trans (HBB.out.block k (HXL.out k hk))
  | true =>
    rw [hh] at HH
    have HD : Hid (putD ds aw d a s = upd ds d ((ds d).put a s.data.toList)) := Lib.hid (by unfold putD; rw [hh]; rfl)
    have hl : (ds d).lost = false := by
      unfold hereB at hh
      simp at hh
      exact hh.2
    clear hh
    obtain ⟨b, cl, hW⟩ := wr_any HST.out hd hl a ha s hs hK
    have HWR := Lib.hid hW
    have ll := World.block_lt_of_cell? w2 _ cl
    clear hW hl
    have q1 : (0 : Int) ≤ (d : Int) := by omega
    have q2 : (d : Int) < (x.n : Int) := by omega
    have b0 : Below w2.heap.size w2 w2.drew := (Below.refl _ w2).drew
    go_enter Tryz.func59, Tryz.ntmps59
    go_wp2_with fail
    rw [HW1.out, HW2.out]
    go_region_held3 (fun W => W.cell? ⟨w.heap.size, 0, none⟩ = some (.slice x.ga x.gn x.gc) ∧ W.cell? ⟨w.heap.size, 1, none⟩ = some (.int .i64 x.sc) ∧ W.cell? ⟨w.heap.size, 2, none⟩ = some (.slice (some ⟨x.lb, 0, none⟩) x.n x.n) ∧ W.cell? ⟨w.heap.size, 3, none⟩ = some (.slice (some ⟨x.ab, 0, none⟩) x.n x.n) ∧ W.cell? ⟨w.heap.size + 1, 0, none⟩ = some (.int .i64 (d : Int)) ∧ W.cell? ⟨w.heap.size + 1, 1, none⟩ = some (.int .i64 (a : Int)) ∧ W.cell? ⟨x.lb, d, none⟩ = some (.pointer (some ⟨b, 0, none⟩)))
      (first | exact ⟨x0, x1, x2, x3, y0, y1, cl⟩ | exact ⟨k0, k1, k2, k3, k4, k5, k6⟩ | exact ⟨m0, m1, m2, m3, m4, m5, m6⟩)
      (first
        | (go_at_call 46; refine (HH.out _ b0).mono ?_; rintro e w4 ⟨rfl, b4⟩; have b5 : Below w2.heap.size w2 w4 := next b0 b4; have k0 := (b5.cell (p := ⟨w.heap.size, 0, none⟩) lx).trans x0; have k1 := (b5.cell (p := ⟨w.heap.size, 1, none⟩) lx).trans x1; have k2 := (b5.cell (p := ⟨w.heap.size, 2, none⟩) lx).trans x2; have k3 := (b5.cell (p := ⟨w.heap.size, 3, none⟩) lx).trans x3; have k4 := (b5.cell (p := ⟨w.heap.size + 1, 0, none⟩) ly).trans y0; have k5 := (b5.cell (p := ⟨w.heap.size + 1, 1, none⟩) ly).trans y1; have k6 := (b5.cell (p := ⟨x.lb, d, none⟩) ll).trans cl)
        | (go_at_call 87; refine (HWR.out w4 b5).mono ?_; rintro e w5 ⟨rfl, h5, b6, hlb, hX⟩; have ⟨⟨hp5, m0, m1, m2, m3⟩, m4', m5', _, _⟩ := h5.out; have m4 := m4'.trans (by rw [hcd]); have m5 := m5'.trans (by rw [hca]); have m6 := (World.cell?_of_block (w := w4) hlb).trans k6))
    go_wp2
    go_ret
    refine ⟨rfl, ?_, ?_, fun k hk => ?_⟩
    · rw [HD.out]
      exact h5.mono fun w h => h.1.1
    · exact ((HBB.out.trans (b5.mono HBB.out.size)).mono HHB.out).trans b6
    · exact ((hX k hk).trans (b5.block k (Nat.lt_of_lt_of_le (HXL.out k hk) HBB.out.size))).trans (HBB.out.block k (HXL.out k hk))
end
end Go.Proofs.YtiffkbmcikiioaaGreat
