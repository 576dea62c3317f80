/-
  slices.Grow, slices.Concat of two, par.Again: what they answer.
-/
import Derived.Test.YtckfhphobjjojaaPo
import Derived.Deep.RegionWith
namespace Go.Proofs.Ytckfhphobjjojaa
open Go.RowKit M

set_option maxHeartbeats 1000000 in
theorem grow_any (n : Nat) (w : World) (hn : 0 < n) (hn2 : n ≤ 4294967296) :
    Calls Try.prog 24 #[.slice none 0 0, .int .i64 n] w fun e w' =>
      ∃ c, e = .returned (.slice (some ⟨w.heap.size, 0, none⟩) 0 c) ∧ Own w' w.heap.size (.slice (some ⟨w.heap.size, 0, none⟩) 0 c) [] ∧ Below w.heap.size w w' := by
  obtain ⟨i, hi, hz, hs, hb⟩ := info_str
  have hr := fun ty => Lib.run_append_nil_zeros (P := Try.prog) w 22 3 ty 9 i (.string ⟨#[]⟩) .i64 .i64 Try.underlying22 Try.underlying3 hi hz n hn (by omega) (by omega) (by rw [hb]; omega)
  have hge := grownCap_ge w n 0 9
  have hle := grownCap_le_maxLen w n 0 9 (by unfold maxLen; omega)
  have hO : Own (w.drew.alloc (.cells (Builtin.zeroCells (Value.string ⟨#[]⟩).cells n ++ Builtin.zeroCells (Value.string ⟨#[]⟩).cells (grownCap w n 0 9 - n)) 9)) w.heap.size (.slice (some ⟨w.heap.size, 0, none⟩) 0 (grownCap w n 0 9)) [] := by
    refine World.ownsRow_made (e := 9) (size := 1) (base := w.heap.size) w.drew _ (grownCap w n 0 9) (Nat.le_refl _) hle ?_
    simp only [Array.size_append, size_zeroCells]
    have : (Value.string ⟨#[]⟩).cells.size = 1 := rfl
    rw [this]
    omega
  have hB : Below w.heap.size w (w.drew.alloc (.cells (Builtin.zeroCells (Value.string ⟨#[]⟩).cells n ++ Builtin.zeroCells (Value.string ⟨#[]⟩).cells (grownCap w n 0 9 - n)) 9)) := (Below.refl _ w).drew.alloc (Nat.le_refl _) _
  generalize hW : w.drew.alloc (.cells (Builtin.zeroCells (Value.string ⟨#[]⟩).cells n ++ Builtin.zeroCells (Value.string ⟨#[]⟩).cells (grownCap w n 0 9 - n)) 9) = W at hr hO hB
  generalize hg : grownCap w n 0 9 = gc at hr hO hge hle
  have HR := Lib.hid hr
  unfold maxLen at hle
  clear hr hW hg hi hz hs hb
  go_enter Try.func24, Try.ntmps24
  go_wp2_with (at_builtin; refine Lib.wpList_append_run _ rfl (.tmp 20) (.tmp 21) _ _ rfl _ _ rfl rfl _ _ (HR.out _) ?_)
  go_ret
  exact ⟨gc, rfl, hO, hB⟩

set_option maxHeartbeats 2000000 in
theorem concat_any (l1 l2 : List ByteArray) (a1 a2 : Option Addr) (n1 c1 n2 c2 D : Nat) (w : World) (h1 : Txt w (.slice a1 n1 c1) l1) (h2 : Txt w (.slice a2 n2 c2) l2) (hD : D < w.heap.size)
    (hd1 : w.cell? ⟨D, 0, none⟩ = some (.slice a1 n1 c1)) (hd2 : w.cell? ⟨D, 1, none⟩ = some (.slice a2 n2 c2)) (hn : 0 < n1 + n2) (hn2 : n1 + n2 ≤ 4294967296) :
    Calls Try.prog 22 #[.slice (some ⟨D, 0, none⟩) 2 2] w fun e w' =>
      ∃ a c, e = .returned (.slice a (n1 + n2) c) ∧ Txt w' (.slice a (n1 + n2) c) (l1 ++ l2) ∧ Below w.heap.size w w' := by
  have HL1 := Lib.hid h1.len
  have HL2 := Lib.hid h2.len
  have H1 := Lib.hid h1
  have H2 := Lib.hid h2
  clear h1 h2
  go_enter Try.func22, Try.ntmps22
  go_wp2_with fail
  refine wp_loop_rounds 3 ?_
  rw [rounds_succ]
  go_wp2_with fail
  rw [rounds_succ]
  go_wp2_with fail
  rw [rounds_succ]
  go_wp2_with fail
  have hg := grow_any (n1 + n2) w hn hn2
  rw [show ((n1 + n2 : Nat) : Int) = (n1 : Int) + (n2 : Int) by omega] at hg
  refine hg.mono ?_
  clear hg
  rintro e w1 ⟨c, rfl, hO1, b1⟩
  have hB1 : w.heap.size ≤ w1.heap.size := b1.size
  have hd1' : w1.cell? ⟨D, 0, none⟩ = some (.slice a1 n1 c1) := by rw [b1.cell (p := ⟨D, 0, none⟩) hD]; exact hd1
  have hd2' : w1.cell? ⟨D, 1, none⟩ = some (.slice a2 n2 c2) := by rw [b1.cell (p := ⟨D, 1, none⟩) hD]; exact hd2
  have hT1 := H1.out.below b1
  clear hd1 hd2
  go_wp2_with fail
  refine wp_loop_rounds 3 ?_
  rw [rounds_succ]
  go_wp2_with (at_builtin; refine wpList_append_txt _ rfl (.tmp 31) (.tmp 32) rfl w.heap.size _ _ [] l1 l1 n1 rfl rfl rfl HL1.out hO1 hT1 hB1 (by omega) ?_; intro a3 c3 w3 hO3 b3 s3)
  have b03 := b1.trans b3
  have hd3 : w3.cell? ⟨D, 1, none⟩ = some (.slice a2 n2 c2) := by rw [b3.cell (p := ⟨D, 1, none⟩) hD]; exact hd2'
  have hT3 := H2.out.below b03
  clear hd1' hd2' hT1 hO1
  rw [rounds_succ]
  go_wp2_with (at_builtin; refine wpList_append_txt _ rfl (.tmp 31) (.tmp 32) rfl w.heap.size _ _ l1 l2 (l1 ++ l2) (n1 + n2) rfl rfl rfl (by simp [HL1.out, HL2.out]) hO3 hT3 b03.size (by omega) ?_; intro a4 c4 w4 hO4 b4 s4)
  rw [rounds_succ]
  go_wp2
  go_ret
  exact ⟨a4, c4, rfl, hO4.txt, b03.trans b4⟩

/-- A slice's first texts, and its last. -/
theorem txt_take {w : World} {g o c k : Nat} {l : List ByteArray} (hk : k ≤ l.length) (hc : k ≤ c) (hg : g < w.heap.size) (h : ∀ j (h : j < l.length), w.cell? ⟨g, o + j, none⟩ = some (.string l[j])) :
    Txt w (.slice (some ⟨g, o, none⟩) k c) (l.take k) := by
  have hl : (l.take k).length = k := by rw [List.length_take]; omega
  refine ⟨_, c, by rw [hl], by omega, fun j hj => ⟨g, o, rfl, hg, ?_⟩⟩
  rw [hl] at hj
  rw [h j (by omega), List.getElem_take]
theorem txt_drop {w : World} {g o c k n : Nat} {l : List ByteArray} (hn : l.length = n) (hc : n ≤ c) (hg : g < w.heap.size) (h : ∀ j (h : j < l.length), w.cell? ⟨g, o + j, none⟩ = some (.string l[j])) :
    Txt w (.slice (some ⟨g, o + k, none⟩) (n - k) (c - k)) (l.drop k) := by
  have hl : (l.drop k).length = n - k := by rw [List.length_drop]; omega
  refine ⟨_, c - k, by rw [hl], by omega, fun j hj => ⟨g, o + k, rfl, hg, ?_⟩⟩
  rw [hl] at hj
  rw [Nat.add_assoc, h (k + j) (by omega), List.getElem_drop]
theorem txt_empty (w : World) (a : Option Addr) (c : Nat) : Txt w (.slice a 0 c) [] := ⟨a, c, rfl, Nat.zero_le _, fun _ h => absurd h (Nat.not_lt_zero _)⟩
theorem mem_erase {α : Type} {l : List α} {k : Nat} {s : α} (h : s ∈ l.eraseIdx k) : s ∈ l := List.mem_of_mem_eraseIdx h

/-- A place that is none, or fewer than two. -/
theorem again_no (a : Option Addr) (n c : Nat) (at_ : Int) (w : World) (h : n < 2 ∨ at_ < 0 ∨ (n : Int) ≤ at_) :
    Calls Try.prog 12 #[.slice a n c, .int .i64 at_] w fun e w' => e = .returned (.tuple #[.string ⟨#[]⟩, .int .i64 1]) ∧ w = w' := by
  by_cases h1 : n < 2
  · clear h
    go_enter Try.func12, Try.ntmps12
    go_wp2
    go_ret2
    exact ⟨rfl, rfl⟩
  · by_cases h2 : at_ < 0
    · clear h
      go_enter Try.func12, Try.ntmps12
      go_wp2
      go_ret2
      exact ⟨rfl, rfl⟩
    · have h3 : (n : Int) ≤ at_ := by omega
      clear h
      go_enter Try.func12, Try.ntmps12
      go_wp2
      go_ret2
      exact ⟨rfl, rfl⟩
end Go.Proofs.Ytckfhphobjjojaa
