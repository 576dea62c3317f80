/-
  Plain facts for HealTwo and HealOne (Hy, Hz, Hz2, Hz3, Hz4 joined), and a device lost or new (Ho2).
-/
import Derived.Test.YtiffkbmcikiioaaGreatY49
import Derived.Test.YtiffkbmcikiioaaGreatY47
import Derived.Test.YtiffkbmcikiioaaGreatY36
import Derived.Test.YtiffkbmcikiioaaGreatY19
import Derived.Test.YtiffkbmcikiioaaGreatY38
import Derived.Test.YtiffkbmcikiioaaGreatHw
import Derived.Test.YtiffkbmcikiioaaGreatY40
import Derived.Test.YtiffkbmcikiioaaGreatY16
import Derived.Test.YtiffkbmcikiioaaGreatY35
namespace Go.Proofs.YtiffkbmcikiioaaGreat
set_option maxRecDepth 100000
open Go.RowKit Go.Maps M

/-- Columns at other sectors read as they did. -/
theorem wrTo_other {L M : List C} (ds : Nat → Dv) (aw : Nat → Bool) (E : List ByteArray) (h : ∀ i j, i < L.length → j < M.length → ¬ (devN L i = devN M j ∧ atN L i = atN M j)) : ∀ m, m ≤ L.length → ∀ j, j < M.length → (wrTo ds aw L E m (devN M j)).now (atN M j) = (ds (devN M j)).now (atN M j) := by
  intro m
  induction m with
  | zero => intro _ j _; rfl
  | succ m ih =>
    intro hm j hj
    rw [wrTo, putD_now, if_neg fun k => h m j (by omega) hj ⟨k.2.1.symm, k.2.2.symm⟩]
    exact ih (by omega) j hj
theorem raw_other {L M : List C} (ds : Nat → Dv) (aw : Nat → Bool) (E : List ByteArray) (h : ∀ i j, i < L.length → j < M.length → ¬ (devN L i = devN M j ∧ atN L i = atN M j)) : rawL (wrTo ds aw L E L.length) aw M = rawL ds aw M := by
  unfold rawL
  refine List.map_congr_left fun j hj => ?_
  have hj := List.mem_range.1 hj
  rw [rawAt, wrTo_here, rawAt, wrTo_other ds aw E h _ (Nat.le_refl _) j hj]
section
variable {l : List (Int × Int)} {sc : Int} {p : Ptr} {z n : Nat}
/-- Behind laid, with all devices here, every place's columns read as they were encoded. -/
theorem PR.wps (hp : PR l sc p z) (hn : devsL l sc = (n : Int)) (s : ByteArray) : ∀ m, m ≤ nP p → ∀ j, j < m → RW (wpS l sc p z s m) (fun _ => false) l p z j = EE l p z s j := by
  intro m
  induction m with
  | zero => intro _ j hj; omega
  | succ m ih =>
    intro hm j hj
    rw [wpS]
    by_cases e : j = m
    · subst e
      refine raw_wrote ((hp.blk j (by omega)).2.apartN hn) _ _ _ (encOf_len _ _ _ _ _) fun i _ => ?_
      unfold hereB
      rw [wpS_lost]
      rfl
    · show rawL _ _ _ = _
      rw [raw_other _ _ _ fun a b ha hb => hp.apart m j (by omega) (by omega) (fun h => e h.symm) a b ha hb]
      exact ih (by omega) j (by omega)
end


/-- The devices behind the spoiling of so many columns. -/
def spTo (L : List C) (by_ : UInt8) (ds : Nat → Dv) : Nat → Nat → Dv
  | 0 => ds
  | m + 1 => upd (spTo L by_ ds m) (devN L m) (spoilD8 (spTo L by_ ds m (devN L m)) (atN L m : Int) (m : Int) by_)
theorem spTo_same (L : List C) (by_ : UInt8) (ds : Nat → Dv) : ∀ m i, (spTo L by_ ds m i).lost = (ds i).lost ∧ (spTo L by_ ds m i).med.length = (ds i).med.length := by
  intro m
  induction m with
  | zero => intro i; exact ⟨rfl, rfl⟩
  | succ m ih =>
    intro i
    rw [spTo]
    unfold upd
    by_cases e : i = devN L m
    · rw [if_pos e]
      obtain ⟨h1, _, _, h4⟩ := spoilD8_same (spTo L by_ ds m (devN L m)) (atN L m : Int) (m : Int) by_
      rw [h1, h4, e]
      exact ih _
    · rw [if_neg e]
      exact ih i
theorem spTo_here (L : List C) (by_ : UInt8) (ds : Nat → Dv) (aw : Nat → Bool) (m : Nat) : hereB (spTo L by_ ds m) aw = hereB ds aw := by
  funext i
  unfold hereB
  rw [(spTo_same L by_ ds m i).1]
theorem spoilD8_now (S : Dv) (k : Nat) (p : Int) (c : UInt8) (hk : k < S.med.length) (hl : S.lost = false) (hc : c ≠ 0) (j : Nat) : (spoilD8 S (k : Int) p c).now j = if j = k then spoilt (S.now k) (p % 64).toNat c else S.now j := by
  have hb : spoilB8 S (k : Int) c = true := by
    unfold spoilB8 reachE
    simp [hc, hl]
    omega
  unfold spoilD8
  rw [hb, if_pos rfl]
  show (S.turn k (spoilt (S.now k) (p % 64).toNat c)).now j = _
  rw [turn_now S k hk]
/-- What a sector reads as, behind the spoiling of columns at other sectors. -/
theorem spTo_other {L : List C} {by_ : UInt8} (hc : by_ ≠ 0) (ds : Nat → Dv) (hd : ∀ j, j < L.length → (ds (devN L j)).lost = false ∧ atN L j < (ds (devN L j)).med.length) (d a : Nat) : ∀ m, m ≤ L.length → (∀ j, j < m → ¬ (devN L j = d ∧ atN L j = a)) → (spTo L by_ ds m d).now a = (ds d).now a := by
  intro m
  induction m with
  | zero => intro _ _; rfl
  | succ m ih =>
    intro hm hno
    rw [spTo]
    unfold upd
    have h := hd m (by omega)
    have hs := spTo_same L by_ ds m (devN L m)
    by_cases e : d = devN L m
    · rw [if_pos e, spoilD8_now _ _ _ _ (by rw [hs.2]; exact h.2) (by rw [hs.1]; exact h.1) hc, if_neg fun e2 => hno m (by omega) ⟨e.symm, e2.symm⟩, ← e]
      exact ih (by omega) fun j hj => hno j (by omega)
    · rw [if_neg e]
      exact ih (by omega) fun j hj => hno j (by omega)
/-- What a spoilt column reads as. -/
theorem spTo_at {L : List C} (hA : ApartN L) {by_ : UInt8} (hc : by_ ≠ 0) (ds : Nat → Dv) (hd : ∀ j, j < L.length → (ds (devN L j)).lost = false ∧ atN L j < (ds (devN L j)).med.length) : ∀ m, m ≤ L.length → ∀ j, j < m → (spTo L by_ ds m (devN L j)).now (atN L j) = spoilt ((ds (devN L j)).now (atN L j)) ((j : Int) % 64).toNat by_ := by
  intro m
  induction m with
  | zero => intro _ j hj; omega
  | succ m ih =>
    intro hm j hj
    rw [spTo]
    unfold upd
    have h := hd m (by omega)
    have hs := spTo_same L by_ ds m (devN L m)
    by_cases e : j = m
    · subst e
      rw [if_pos rfl, spoilD8_now _ _ _ _ (by rw [hs.2]; exact h.2) (by rw [hs.1]; exact h.1) hc, if_pos rfl,
        spTo_other hc ds hd _ _ j (by omega) fun i hi k => absurd (hA i j (by omega) (by omega) k.1 k.2) (by omega)]
    · by_cases e2 : devN L j = devN L m
      · rw [if_pos e2, spoilD8_now _ _ _ _ (by rw [hs.2]; exact h.2) (by rw [hs.1]; exact h.1) hc, if_neg fun e3 => e (hA j m (by omega) (by omega) e2 e3), ← e2]
        exact ih (by omega) j (by omega)
      · rw [if_neg e2]
        exact ih (by omega) j (by omega)
theorem raw_spoilt {L M : List C} {by_ : UInt8} (hc : by_ ≠ 0) (ds : Nat → Dv) (aw : Nat → Bool) (hd : ∀ j, j < L.length → (ds (devN L j)).lost = false ∧ atN L j < (ds (devN L j)).med.length) (h : ∀ i j, i < L.length → j < M.length → ¬ (devN L i = devN M j ∧ atN L i = atN M j)) : rawL (spTo L by_ ds L.length) aw M = rawL ds aw M := by
  unfold rawL
  refine List.map_congr_left fun j hj => ?_
  have hj := List.mem_range.1 hj
  rw [rawAt, spTo_here, rawAt, spTo_other hc ds hd _ _ _ (Nat.le_refl _) fun i hi => h i j hi hj]


/-- Columns as they were encoded have the text among their tries, and no other. -/
theorem Enc7.own {l : List (Int × Int)} {sc : Int} {k t z : Nat} {s : ByteArray} {kk : Int} {u : Nat} {L : List C} {f : Nat → ByteArray} (h : Enc7 l sc k t z s kk u L f) : ∃ x, (x, s) ∈ triesOf l sc k t z (encOf l k t z s) := by
  rw [h.enc]
  rcases h.kind.ok with h0 | h1
  · exact h.oneM h0.1 (dn := 0) (by have := (h.mir h0.1).2.2.1; omega) (Spo.start _ _ _ _)
  · exact h.oneP h1.1 (d := 0) (Spo.start _ _ _ _)
section
variable {l : List (Int × Int)} {sc : Int} {p : Ptr} {z n : Nat} {ds : Nat → Dv} {aw : Nat → Bool}
/-- The block is found, where one place's columns are as they were encoded. -/
theorem PR.found (hp : PR l sc p z) {s : ByteArray} (hs : s.size = z * 64) (hq : p.q = sumB s) {R : Nat → List ByteArray} {j : Nat} (hj : j < nP p) (hR : R j = EE l p z s j) : ∃ i d t, lookTo p.q (TT l sc p z R) (nP p) = some (i, d, t) ∧ sumB t = sumB s := by
  cases e : lookTo p.q (TT l sc p z R) (nP p) with
  | some r =>
    obtain ⟨i, d, t⟩ := r
    obtain ⟨_, h2, _⟩ := lookTo_some e
    exact ⟨i, d, t, rfl, by rw [← hq]; exact (hitQ_some h2).2⟩
  | none =>
    exfalso
    obtain ⟨_, hb⟩ := hp.blk j hj
    obtain ⟨kk, u, hE⟩ := hb.enc7 hs
    obtain ⟨x, hx⟩ := hE.own
    have hm : (x, s) ∈ TT l sc p z R j := by
      unfold TT
      rw [hR]
      exact hx
    exact hitQ_none (lookTo_none e j hj) _ hm hq.symm
/-- At a place whose columns are as they were encoded nothing is to be mended. -/
theorem fineAt_own {s : ByteArray} {j : Nat} (hR : RW ds aw l p z j = EE l p z s j) : fineAt l ds aw p z s j = true := by
  unfold fineAt badL
  rw [hR]
  simp [idx, neB]
theorem unlP_own {s : ByteArray} {j : Nat} (hR : RW ds aw l p z j = EE l p z s j) : unlP l aw p z s ds j = 0 := by
  unfold unlP
  rw [hR]
  exact unlN_zero fun _ _ _ => rfl
end
theorem spoilt_ne {s : Sec} {p : Nat} {c : UInt8} (hp : p < s.length) (hc : c ≠ 0) : spoilt s p c ≠ s := by
  intro e
  have h1 := congrArg (fun l => l[p]?) e
  unfold spoilt at h1
  simp only [List.getElem?_set_self hp] at h1
  rw [List.getD_eq_getElem?_getD, List.getElem?_eq_getElem hp] at h1
  simp only [Option.getD_some, Option.some.injEq] at h1
  refine hc ?_
  have := congrArg (fun x => s[p] ^^^ x) h1
  simpa [← UInt8.xor_assoc] using this
/-- With all devices here a mending makes all columns as they were encoded. -/
theorem fixL_full {hr : Nat → Bool} {L : List C} {E G : List ByteArray} (hl : E.length = L.length) (h : ∀ j, j < L.length → hr (devN L j) = true) : fixL hr L E G = E := by
  apply List.ext_getElem?
  intro j
  by_cases hj : j < L.length
  · unfold fixL
    rw [List.getElem?_map, List.getElem?_range hj, List.getElem?_eq_getElem (by omega)]
    simp only [Option.map_some, h j hj, if_true]
    rw [List.getD_eq_getElem?_getD, List.getElem?_eq_getElem (by omega)]
    rfl
  · rw [List.getElem?_eq_none (by rw [fixL_len]; omega), List.getElem?_eq_none (by omega)]
theorem scS_here {l : List (Int × Int)} {aw : Nat → Bool} {p : Ptr} {z : Nat} (s : ByteArray) (ds : Nat → Dv) (i : Nat) : ∀ j, hereB (scS l aw p z s ds i j) aw = hereB ds aw := by
  intro j
  induction j with
  | zero => exact readS_here _ _
  | succ j ih => rw [scS, fixP_here, ih]
/-- Behind a Scrub, with all devices here, all columns of both places are as they were encoded. -/
theorem PR.scrubbed_raw {l : List (Int × Int)} {sc : Int} {p : Ptr} {z n : Nat} {ds : Nat → Dv} {aw : Nat → Bool} (hp : PR l sc p z) (hn : devsL l sc = (n : Int)) (s : ByteArray) (hh : ∀ i, hereB ds aw i = true) (i : Nat) : ∀ m, m ≤ nP p → ∀ j, j < m → RW (scS l aw p z s ds i m) aw l p z j = EE l p z s j := by
  intro m
  induction m with
  | zero => intro _ j hj; omega
  | succ m ih =>
    intro hm j hj
    rw [scS, hp.rw_fix hn s _ (by omega) (by omega)]
    by_cases e : j = m
    · subst e
      rw [if_pos rfl]
      exact fixL_full (encOf_len _ _ _ _ _) fun a _ => by rw [scS_here]; exact hh _
    · rw [if_neg e]
      exact ih (by omega) j (by omega)
theorem strOf_inj {a b : List UInt8} (h : strOf a = strOf b) : a = b := by
  unfold strOf at h
  have := congrArg (fun x => x.data.toList) h
  simpa using this
/-- A place's columns that were spoilt are unlike what they were. -/
theorem spoilt_unlike {L : List C} (hA : ApartN L) {by_ : UInt8} (hc : by_ ≠ 0) (ds : Nat → Dv) (aw : Nat → Bool) (hd : ∀ j, j < L.length → (ds (devN L j)).lost = false ∧ atN L j < (ds (devN L j)).med.length) (h64 : ∀ j, j < L.length → ((ds (devN L j)).now (atN L j)).length = 64) (hh : ∀ i, hereB ds aw i = true) {E : List ByteArray} (hE : rawL ds aw L = E) {j : Nat} (hj : j < L.length) : (rawL (spTo L by_ ds L.length) aw L).getD j ⟨#[]⟩ ≠ E.getD j ⟨#[]⟩ := by
  rw [← hE, rawL_at _ _ _ _ hj, rawL_at _ _ _ _ hj, rawAt, spTo_here, rawAt, hh, if_pos rfl, if_pos rfl, spTo_at hA hc ds hd _ (Nat.le_refl _) j hj]
  intro e
  refine spoilt_ne ?_ hc (strOf_inj e)
  rw [h64 j hj]
  omega


section
variable {l : List (Int × Int)} {sc : Int} {p : Ptr} {z n : Nat} {ds : Nat → Dv} {aw : Nat → Bool} {s : ByteArray}
theorem PR.spots (hp : PR l sc p z) (hn : devsL l sc = (n : Int)) (hs : s.size = z * 64) (hlo : ∀ i, i < n → (ds i).lost = false) (hg : ∀ i, i < n → ((ds i).med.length : Int) = sc) {j : Nat} (hj : j < nP p) :
    ∀ a, a < (LL l p z j).length → devN (LL l p z j) a < n ∧ (ds (devN (LL l p z j) a)).lost = false ∧ atN (LL l p z j) a < (ds (devN (LL l p z j) a)).med.length := by
  intro a ha
  have hP := (hp.blk j hj).2.puts hs hn
  have h1 : devN (LL l p z j) a < n := (hP.dev a ha).2
  have h2 : (atN (LL l p z j) a : Int) < sc := (hP.at_ a ha).2
  refine ⟨h1, hlo _ h1, ?_⟩
  have := hg _ h1
  omega
theorem strOf_size (x : Sec) : (strOf x).size = x.length := rfl
theorem PR.sec64 (hp : PR l sc p z) (hn : devsL l sc = (n : Int)) (hs : s.size = z * 64) (hh : ∀ i, hereB ds aw i = true) {j : Nat} (hj : j < nP p) (hR : RW ds aw l p z j = EE l p z s j) :
    ∀ a, a < (LL l p z j).length → ((ds (devN (LL l p z j) a)).now (atN (LL l p z j) a)).length = 64 := by
  intro a ha
  have hP := (hp.blk j hj).2.puts hs hn
  have h1 : (RW ds aw l p z j).getD a ⟨#[]⟩ = strOf ((ds (devN (LL l p z j) a)).now (atN (LL l p z j) a)) := by
    unfold RW
    rw [rawL_at _ _ _ _ ha, rawAt, hh, if_pos rfl]
  rw [hR] at h1
  have h2 := hP.size a (by rw [hP.len]; exact ha)
  rw [← strOf_size, ← h1]
  exact h2
/-- All of one place's columns spoilt: the block is found, and just these columns are unlike what they are to be. -/
theorem PR.two (hp : PR l sc p z) (hn : devsL l sc = (n : Int)) (hs : s.size = z * 64) (hq : p.q = sumB s) (h2 : p.two = true) (hlo : ∀ i, (ds i).lost = false) (hg : ∀ i, i < n → ((ds i).med.length : Int) = sc) (hh : ∀ i, hereB ds aw i = true)
    (hR : ∀ j, j < nP p → RW ds aw l p z j = EE l p z s j) {c : UInt8} (hc : c ≠ 0) {j0 : Nat} (hj0 : j0 < 2) {ds1 : Nat → Dv} (hds : ds1 = spTo (LL l p z j0) c ds (LL l p z j0).length) :
    (∃ i d t, lookTo p.q (TT l sc p z (RW ds1 aw l p z)) (nP p) = some (i, d, t) ∧ sumB t = sumB s) ∧ unlP l aw p z s ds1 j0 = (LL l p z j0).length ∧ unlP l aw p z s ds1 (1 - j0) = 0 ∧ ∀ i, hereB ds1 aw i = true := by
  have n2 : nP p = 2 := by unfold nP; rw [h2]; rfl
  have hj : j0 < nP p := by omega
  have hk : 1 - j0 < nP p := by omega
  have hne : j0 ≠ 1 - j0 := by omega
  have hsp := hp.spots hn hs (fun i _ => hlo i) hg hj
  have hd : ∀ a, a < (LL l p z j0).length → (ds (devN (LL l p z j0) a)).lost = false ∧ atN (LL l p z j0) a < (ds (devN (LL l p z j0) a)).med.length := fun a ha => (hsp a ha).2
  have hoth : RW ds1 aw l p z (1 - j0) = EE l p z s (1 - j0) := by
    rw [← hR _ hk, hds]
    exact raw_spoilt hc ds aw hd fun a b ha hb => hp.apart j0 (1 - j0) hj hk hne a b ha hb
  have hth : ∀ i, hereB ds1 aw i = true := fun i => by rw [hds, spTo_here]; exact hh i
  refine ⟨hp.found hs hq hk hoth, ?_, unlP_own hoth, hth⟩
  unfold unlP
  refine unlN_all fun a ha => ⟨hth _, ?_⟩
  rw [hds]
  exact spoilt_unlike ((hp.blk j0 hj).2.apartN hn) hc ds aw hd (hp.sec64 hn hs hh hj (hR _ hj)) hh (hR _ hj) ha
/-- Where all columns of all places are as they were encoded the text itself is found, and all is whole. -/
theorem PR.whole (hp : PR l sc p z) (hs : s.size = z * 64) (hq : p.q = sumB s) (hR : ∀ j, j < nP p → RW ds aw l p z j = EE l p z s j) :
    (∃ i d, lookTo p.q (TT l sc p z (RW ds aw l p z)) (nP p) = some (i, d, s)) ∧ fineAll l ds aw p z s (nP p) = true := by
  refine ⟨?_, fineAll_iff.2 fun j hj => fineAt_own (hR j hj)⟩
  obtain ⟨i, d, t, hf, _⟩ := hp.found hs hq (nP_pos p) (hR 0 (nP_pos p))
  obtain ⟨hi, hhit, _⟩ := lookTo_some hf
  obtain ⟨hmem, _⟩ := hitQ_some hhit
  obtain ⟨_, hb⟩ := hp.blk i hi
  obtain ⟨kk, u, hE⟩ := hb.enc7 hs
  have hm : (d, t) ∈ triesOf l sc (kN p i) (tN p i) z (encOf l (kN p i) (tN p i) z s) := by
    unfold TT at hmem
    rw [hR i hi] at hmem
    exact hmem
  rw [hE.enc] at hm
  have hts : t = s := hE.lessA (Mis.start _ _) _ hm
  subst hts
  exact ⟨i, d, hf⟩
/-- Behind a Scrub, with all devices here, the text itself is found, and all is whole. -/
theorem PR.healed (hp : PR l sc p z) (hn : devsL l sc = (n : Int)) (hs : s.size = z * 64) (hq : p.q = sumB s) (hh : ∀ i, hereB ds aw i = true) (i : Nat) {ds2 : Nat → Dv} (hds : ds2 = scS l aw p z s ds i (nP p)) :
    (∀ j, j < nP p → RW ds2 aw l p z j = EE l p z s j) ∧ (∃ i d, lookTo p.q (TT l sc p z (RW ds2 aw l p z)) (nP p) = some (i, d, s)) ∧ fineAll l ds2 aw p z s (nP p) = true := by
  have hR : ∀ j, j < nP p → RW ds2 aw l p z j = EE l p z s j := fun j hj => by
    rw [hds]
    exact hp.scrubbed_raw hn s hh i _ (Nat.le_refl _) j hj
  exact ⟨hR, hp.whole hs hq hR⟩
end


/-- The last of the first groups that begins no later than a device. -/
def grpTo (l : List (Int × Int)) (d : Nat) : Nat → Nat
  | 0 => 0
  | i + 1 => if aheadL l i ≤ (d : Int) then i else grpTo l d i
theorem grpTo_le (l : List (Int × Int)) (d : Nat) : ∀ m, grpTo l d m ≤ m := by
  intro m
  induction m with
  | zero => exact Nat.le_refl _
  | succ m ih =>
    unfold grpTo
    split <;> omega
theorem grpTo_lt (l : List (Int × Int)) (d : Nat) {m : Nat} (h : 0 < m) : grpTo l d m < m := by
  obtain ⟨m, rfl⟩ : ∃ k, m = k + 1 := ⟨m - 1, by omega⟩
  have := grpTo_le l d m
  unfold grpTo
  split <;> omega
theorem grpTo_of {l : List (Int × Int)} {sc : Int} (hr : RightM l sc) {d k : Nat} (hk : k < l.length) (h1 : aheadL l k ≤ (d : Int)) (h2 : (d : Int) < aheadL l k + l[k].2) : ∀ m, k < m → m ≤ l.length → grpTo l d m = k := by
  intro m
  induction m with
  | zero => intro h; omega
  | succ m ih =>
    intro hkm hm
    unfold grpTo
    by_cases e : m = k
    · subst e
      rw [if_pos h1]
    · have := aheadL_next hr hk (m := m) (by omega) (by omega)
      rw [if_neg (by omega)]
      exact ih (by omega) (by omega)
/-- Devices as they were but for one. -/
structure OneD (d : Nat) (ds0 ds1 : Nat → Dv) (aw1 : Nat → Bool) : Prop where
  oth : ∀ i, i ≠ d → ds1 i = ds0 i
  here : ∀ i, i ≠ d → aw1 i = false
theorem OneD.rawAt {d : Nat} {ds0 ds1 : Nat → Dv} {aw1 : Nat → Bool} (h : OneD d ds0 ds1 aw1) {L : List C} {a : Nat} (hne : devN L a ≠ d) : rawAt ds1 aw1 L a = rawAt ds0 (fun _ => false) L a := by
  unfold Proofs.YtiffkbmcikiioaaGreat.rawAt hereB
  rw [h.oth _ hne, h.here _ hne]
theorem OneD.raw {d : Nat} {ds0 ds1 : Nat → Dv} {aw1 : Nat → Bool} (h : OneD d ds0 ds1 aw1) {L : List C} (hne : ∀ a, a < L.length → devN L a ≠ d) : rawL ds1 aw1 L = rawL ds0 (fun _ => false) L := by
  unfold rawL
  exact List.map_congr_left fun a ha => h.rawAt (hne a (List.mem_range.1 ha))
section
variable {l : List (Int × Int)} {sc : Int} {p : Ptr} {z n d : Nat} {ds0 ds1 : Nat → Dv} {aw1 : Nat → Bool} {s : ByteArray}
/-- A column of another device reads as it was encoded. -/
theorem PR.oneAt (hR : ∀ j, j < nP p → RW ds0 (fun _ => false) l p z j = EE l p z s j) (h1 : OneD d ds0 ds1 aw1) {j : Nat} (hj : j < nP p) {a : Nat} (ha : a < (LL l p z j).length) (hne : devN (LL l p z j) a ≠ d) :
    (RW ds1 aw1 l p z j).getD a ⟨#[]⟩ = (EE l p z s j).getD a ⟨#[]⟩ := by
  rw [← hR j hj]
  unfold RW
  rw [rawL_at _ _ _ _ ha, rawL_at _ _ _ _ ha]
  exact h1.rawAt hne
/-- One device's columns spoilt, lost or away: the text is among the tries, at each place. -/
theorem PR.oneIn (hp : PR l sc p z) (hs : s.size = z * 64) (hR : ∀ j, j < nP p → RW ds0 (fun _ => false) l p z j = EE l p z s j) (h1 : OneD d ds0 ds1 aw1) (hraw : RawP l p z aw1 ds1)
    (hw : ∀ k (hk : k < l.length), aheadL l k ≤ (d : Int) → (d : Int) < aheadL l k + l[k].2 → 2 ≤ l[k].2) {j : Nat} (hj : j < nP p) : ∃ x, (x, s) ∈ TT l sc p z (RW ds1 aw1 l p z) j := by
  obtain ⟨_, hb⟩ := hp.blk j hj
  obtain ⟨kk, u, hE⟩ := hb.enc7 hs
  have hrf := hraw j hj
  by_cases hex : ∃ a, a < (LL l p z j).length ∧ devN (LL l p z j) a = d
  · obtain ⟨a, ha, hda⟩ := hex
    have hin : (aheadL l (kN p j)).toNat ≤ devN (LL l p z j) a ∧ devN (LL l p z j) a < (aheadL l (kN p j)).toNat + u := hE.devIn a ha
    have h0 := hE.ahead
    have hg := hE.grpE
    have hu : 2 ≤ u := by
      have := hw _ hb.hk (by omega) (by rw [hg]; show (d : Int) < aheadL l (kN p j) + (u : Int); omega)
      rw [hg] at this
      have h2 : (2 : Int) ≤ (u : Int) := this
      omega
    have hsp : ∀ b, b < (LL l p z j).length → (RW ds1 aw1 l p z j).getD b ⟨#[]⟩ = encAt (LL l p z j) (fun i => sect s (i % z)) b ∨ (devAt (LL l p z j) b = (d : Int) ∧ (((RW ds1 aw1 l p z j).getD b ⟨#[]⟩).size = 0 ∨ ((RW ds1 aw1 l p z j).getD b ⟨#[]⟩).size = 64)) := fun b hb' => by
      by_cases e : devN (LL l p z j) b = d
      · right
        refine ⟨by rw [show devAt (LL l p z j) b = (devN (LL l p z j) b : Int) from hE.devE hb', e], ?_⟩
        exact hrf.secs.at_ b
      · left
        rw [PR.oneAt hR h1 hj hb' e, show EE l p z s j = encL (LL l p z j) (fun i => sect s (i % z)) from hE.enc]
        exact encL_getD _ _ b hb'
    unfold TT
    rcases hE.kind.ok with k0 | k1
    · have hdn : ∃ dn, dn < u ∧ aheadL l (kN p j) + (dn : Int) ≠ (d : Int) := by
        by_cases e : aheadL l (kN p j) = (d : Int)
        · exact ⟨1, by omega, by omega⟩
        · exact ⟨0, by omega, by omega⟩
      obtain ⟨dn, hdn, hne⟩ := hdn
      refine hE.oneM k0.1 hdn ⟨hrf.len, fun b hb' => (hsp b hb').imp id fun e => ⟨?_, e.2⟩⟩
      have e1 : devAt (colsOf l (kN p j) (tN p j) z) b = (d : Int) := e.1
      rw [e1]
      have : ((d : Int) == aheadL l (kN p j) + (dn : Int)) = false := by simpa using fun h => hne h.symm
      rw [this]
      rfl
    · refine hE.oneP k1.1 (d := (d : Int)) ⟨hrf.len, fun b hb' => (hsp b hb').imp id fun e => ⟨?_, e.2⟩⟩
      have e1 : devAt (colsOf l (kN p j) (tN p j) z) b = (d : Int) := e.1
      rw [e1]
      simp
  · have e : RW ds1 aw1 l p z j = EE l p z s j := by
      rw [← hR j hj]
      exact h1.raw fun a ha e => hex ⟨a, ha, e⟩
    unfold TT
    rw [e]
    exact hE.own
/-- .. so the block is found. -/
theorem PR.one (hp : PR l sc p z) (hs : s.size = z * 64) (hq : p.q = sumB s) (hR : ∀ j, j < nP p → RW ds0 (fun _ => false) l p z j = EE l p z s j) (h1 : OneD d ds0 ds1 aw1) (hraw : RawP l p z aw1 ds1)
    (hw : ∀ k (hk : k < l.length), aheadL l k ≤ (d : Int) → (d : Int) < aheadL l k + l[k].2 → 2 ≤ l[k].2) : ∃ i d' t, lookTo p.q (TT l sc p z (RW ds1 aw1 l p z)) (nP p) = some (i, d', t) ∧ sumB t = sumB s := by
  cases e : lookTo p.q (TT l sc p z (RW ds1 aw1 l p z)) (nP p) with
  | some r =>
    obtain ⟨i, d', t⟩ := r
    obtain ⟨_, h2, _⟩ := lookTo_some e
    exact ⟨i, d', t, rfl, by rw [← hq]; exact (hitQ_some h2).2⟩
  | none =>
    exfalso
    obtain ⟨x, hx⟩ := hp.oneIn hs hR h1 hraw hw (nP_pos p)
    exact hitQ_none (lookTo_none e 0 (nP_pos p)) _ hx hq.symm
/-- Where the one device isn't here nothing is mended. -/
theorem PR.oneGone (hR : ∀ j, j < nP p → RW ds0 (fun _ => false) l p z j = EE l p z s j) (h1 : OneD d ds0 ds1 aw1) (hno : hereB ds1 aw1 d = false) {j : Nat} (hj : j < nP p) : unlP l aw1 p z s ds1 j = 0 := by
  unfold unlP
  refine unlN_zero fun a ha hh => PR.oneAt hR h1 hj ha fun e => ?_
  rw [e, hno] at hh
  cases hh
theorem PR.goneN (hp : PR l sc p z) (hn : devsL l sc = (n : Int)) (hR : ∀ j, j < nP p → RW ds0 (fun _ => false) l p z j = EE l p z s j) (h1 : OneD d ds0 ds1 aw1) (hno : hereB ds1 aw1 d = false) {i : Nat} (hi : i < nP p) : scN l aw1 p z s ds1 i (nP p) = 0 := by
  rw [hp.scrubbed hn s hi, PR.oneGone hR h1 hno (nP_pos p)]
  split
  · rename_i h2
    rw [PR.oneGone hR h1 hno (by unfold nP; rw [h2]; decide)]
  · rfl
/-- Where all columns are as they were encoded a Scrub mends nothing. -/
theorem PR.fineN (hp : PR l sc p z) (hn : devsL l sc = (n : Int)) {ds : Nat → Dv} {aw : Nat → Bool} (hR : ∀ j, j < nP p → RW ds aw l p z j = EE l p z s j) {i : Nat} (hi : i < nP p) : scN l aw p z s ds i (nP p) = 0 := by
  rw [hp.scrubbed hn s hi, unlP_own (hR 0 (nP_pos p))]
  split
  · rename_i h2
    rw [unlP_own (hR 1 (by unfold nP; rw [h2]; decide))]
  · rfl
end




section
variable {X : Nat → Prop} {B : Nat} {w : World} {x : Px} {l : List (Int × Int)} {ds : Nat → Dv} {aw : Nat → Bool} {K : Nat} {P : World → Prop}
theorem lose8_any (h : StX X B w x l ds aw K P) {i : Nat} (hi : i < x.n) :
    ∃ b, w.cell? ⟨x.lb, i, none⟩ = some (.pointer (some ⟨b, 0, none⟩)) ∧ ∀ w4, Below w.heap.size w w4 → Calls Tryz.prog 16 #[.pointer (some ⟨b, 0, none⟩)] w4 fun e w' =>
      e = .returned (.tuple #[]) ∧ StX X B w' x l (upd ds i (lostD (ds i))) aw K P ∧ Below B w4 w' := by
  obtain ⟨b, f, hb, _⟩ := h.at_ hi
  refine ⟨b, hb, fun w4 b4 => ?_⟩
  obtain ⟨b', f', hb', hd', hdid⟩ := (h.below b4).did hi
  have e : b' = b := by
    rw [(b4.cell (p := ⟨x.lb, i, none⟩) (World.block_lt_of_cell? w _ hb)).trans hb] at hb'
    cases hb'
    rfl
  subst e
  have hg := h.good hi
  refine (lose_any b' (ds i) f' w4 hd').mono ?_
  rintro e w' ⟨rfl, hdd⟩
  obtain ⟨h5, b5, _, _⟩ := hdid _ w' K hdd ⟨hg.fused, hg.len, Nat.zero_le _⟩ (Nat.le_refl _)
  exact ⟨rfl, h5, b5⟩
theorem fresh8_any (h : StX X B w x l ds aw K P) {i : Nat} (hi : i < x.n) (c : UInt8) :
    ∃ b, w.cell? ⟨x.lb, i, none⟩ = some (.pointer (some ⟨b, 0, none⟩)) ∧ ∀ w4, Below w.heap.size w w4 → Calls Tryz.prog 17 #[.pointer (some ⟨b, 0, none⟩), .int .u8 (c.toNat : Int)] w4 fun e w' =>
      e = .returned (.tuple #[]) ∧ StX X B w' x l (upd ds i ((ds i).fresh c)) aw K P ∧ Below B w4 w' := by
  obtain ⟨b, f, hb, _⟩ := h.at_ hi
  refine ⟨b, hb, fun w4 b4 => ?_⟩
  obtain ⟨b', f', hb', hd', hdid⟩ := (h.below b4).did hi
  have e : b' = b := by
    rw [(b4.cell (p := ⟨x.lb, i, none⟩) (World.block_lt_of_cell? w _ hb)).trans hb] at hb'
    cases hb'
    rfl
  subst e
  have hg := h.good hi
  refine (fresh_any b' (ds i) f' c w4 hd').mono ?_
  rintro e w' ⟨rfl, hdd⟩
  obtain ⟨h5, b5, _, _⟩ := hdid _ w' K hdd ⟨rfl, by show ((List.replicate (ds i).med.length (fullS c)).length : Int) = x.sc; rw [List.length_replicate]; exact hg.len, Nat.zero_le _⟩ (Nat.le_refl _)
  exact ⟨rfl, h5, b5⟩
end
end Go.Proofs.YtiffkbmcikiioaaGreat
