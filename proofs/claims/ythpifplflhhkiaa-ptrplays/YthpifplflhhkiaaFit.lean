/-
  fletch.Words: the function that it answers hands out the text's words, one by one.
-/
import Derived.Test.YthpifplflhhkiaaRng
import Derived.Test.YthpifplflhhkiaaFm
import Derived.Test.YthpifplflhhkiaaMeth
import Derived.Test.YthpifplflhhkiaaRef2
import Derived.Shelf.Abstract
import Derived.Shelf.RegionOpen
import Derived.OwnWalkIn
import Derived.TacticsInMore
import Derived.LoopNIn
import Derived.LoopIn
namespace Go.Proofs.Ythpifplflhhkiaa
set_option maxRecDepth 100000
open Go.RowKit Go.Shelf M
attribute [local go_sem] Oper.semAt_some

/-- A text's words: its bytes padded, four by four. -/
def wordsB (s : ByteArray) : List Nat := wordsL (padK s 4).data.toList

/-- How many bytes are left in a Bytes. -/
def leftIn (b : Nat) (w : World) : Nat := match w.cell? ⟨b, 0, none⟩ with | some (.string s) => s.size | _ => 0
theorem leftIn_has {w : World} {b : Nat} {s : ByteArray} (h : Has w b s) : leftIn b w = s.size := by rw [leftIn, h.1]
theorem pad4_size (s : ByteArray) : (padK s 4).size % 4 = 0 := by
  rw [padK_size]; exact mod_stop s.size 4 (by omega)
theorem Has.since {w w' : World} {b B : Nat} {s : ByteArray} (h : Has w b s) (hs : Since B w w') (hB : B ≤ b) : Has w' b s :=
  ⟨by rw [hs.cell (p := ⟨b, 0, none⟩) hB h.2.2]; exact h.1, by rw [hs.frozen (p := ⟨b, 0, none⟩) hB h.2.2]; exact h.2.1, Nat.lt_of_lt_of_le h.2.2 hs.size⟩
theorem tail_at (p : ByteArray) (a b : Nat) : tailB (tailB p a) b = tailB p (a + b) := ext_list (by rw [tailB_list, tailB_list, tailB_list, List.drop_drop])
theorem tail_zero (p : ByteArray) : tailB p 0 = p := ext_list (by rw [tailB_list]; rfl)

end Go.Proofs.Ythpifplflhhkiaa
