/-
  No cell of these rows narrows 'for every input' (looked for: loops, veiled, ifaces, maps, wideKeys, modest, calm, conditions, laid).
  DERIVED. THE GIVEN ROWS OF THIS SEAT. 4 by the template 'for every input the law returns true; each argument reads behind the call as it read before'; 0 by the template 'total and deterministic' (their statements: YthpifplflhhkiaaTotals.lean).
  GIVEN WITH THE SEED: the statements are not yours to turn. If you find one false, say at which input.
  Laid BY PROGRAM, IN A SANDBOX (cutbox-rows.mjs): the forced cells as the released guide's own fill.sh prints them over the translation 46c404b3c973a649… (all of the seat's roots in one cut). By AI agents, Wed Nov 11 2026. No macro, syntax, notation, axiom, sorry.
-/
import Derived.Test.YthpifplflhhkiaaChecked
import GoSem.Claim
import GoSem.ClaimJoined
import GoSem.ClaimMapViews
import Derived.JoinedTies
import Derived.KernelRfl
namespace Go.Proofs.Ythpifplflhhkiaa
/- THE CELL 'sum', in the pinned program and in every row, IS THE sha256 OF THE DUMP (.gsa) THAT YthpifplflhhkiaaProg.lean LOADS. Nothing in Lean hashes anything: it is a label: what it is worth is what the hold of that sum in a sandbox is worth. -/
noncomputable def Try.pinned : Pinned := { name := "ythpifplflhhkiaa", sum := "46c404b3c973a649639935e7e0e0a852961a21170c9b8e71a323dd39b8a76446", checked := Try.checked }
namespace Rows
def none {H : Type} : Left H := { results := [], args := [] }

/-- 'polderlaw09.PtrBack': WHATEVER THE INPUT: true; the input reads as it did. -/
def ptrBackSpec : ChangeSpec := { name := "ptrBack", fn := fun _ => fun
  | [d1, d2] => { results := [.lit (.bool true)], args := [d1, d2] }
  | _ => none }
def ptrBackRow : OpenClaim := { program := "ythpifplflhhkiaa", sum := "46c404b3c973a649639935e7e0e0a852961a21170c9b8e71a323dd39b8a76446", func := "polder/polderlaw09.PtrBack", spec := "ptrBack", inPlace := ["internal/abi.NoEscape", "internal/bytealg.MakeNoZero"], apart := false }
def PtrBackSaid : Prop := ptrBackRow.holds Try.pinned (OpenSpec.ofChange ptrBackSpec)

/-- ITS FALSE NEIGHBOUR: 'it returns false'. Refute it at one input. -/
def ptrBackWrong : ChangeSpec := { name := "ptrBack", fn := fun _ => fun
  | [d1, d2] => { results := [.lit (.bool false)], args := [d1, d2] }
  | _ => none }
def PtrBackWrongFalsely : Prop := ptrBackRow.holds Try.pinned (OpenSpec.ofChange ptrBackWrong)

/-- 'polderlaw09.PtrOrder': WHATEVER THE INPUT: true; the input reads as it did. -/
def ptrOrderSpec : ChangeSpec := { name := "ptrOrder", fn := fun _ => fun
  | [d1, d2, d3] => { results := [.lit (.bool true)], args := [d1, d2, d3] }
  | _ => none }
def ptrOrderRow : OpenClaim := { program := "ythpifplflhhkiaa", sum := "46c404b3c973a649639935e7e0e0a852961a21170c9b8e71a323dd39b8a76446", func := "polder/polderlaw09.PtrOrder", spec := "ptrOrder", inPlace := ["internal/abi.NoEscape", "internal/bytealg.MakeNoZero"], apart := false }
def PtrOrderSaid : Prop := ptrOrderRow.holds Try.pinned (OpenSpec.ofChange ptrOrderSpec)

/-- ITS FALSE NEIGHBOUR: 'it returns false'. Refute it at one input. -/
def ptrOrderWrong : ChangeSpec := { name := "ptrOrder", fn := fun _ => fun
  | [d1, d2, d3] => { results := [.lit (.bool false)], args := [d1, d2, d3] }
  | _ => none }
def PtrOrderWrongFalsely : Prop := ptrOrderRow.holds Try.pinned (OpenSpec.ofChange ptrOrderWrong)

/-- 'polderlaw09.PtrPlays': WHATEVER THE INPUT: true; the input reads as it did. -/
def ptrPlaysSpec : ChangeSpec := { name := "ptrPlays", fn := fun _ => fun
  | [d1, d2, d3] => { results := [.lit (.bool true)], args := [d1, d2, d3] }
  | _ => none }
def ptrPlaysRow : OpenClaim := { program := "ythpifplflhhkiaa", sum := "46c404b3c973a649639935e7e0e0a852961a21170c9b8e71a323dd39b8a76446", func := "polder/polderlaw09.PtrPlays", spec := "ptrPlays", inPlace := ["internal/abi.NoEscape", "internal/bytealg.MakeNoZero"], unfollowed := true, recurses := true, apart := false }
def PtrPlaysSaid : Prop := ptrPlaysRow.holds Try.pinned (OpenSpec.ofChange ptrPlaysSpec)

/-- ITS FALSE NEIGHBOUR: 'it returns false'. Refute it at one input. -/
def ptrPlaysWrong : ChangeSpec := { name := "ptrPlays", fn := fun _ => fun
  | [d1, d2, d3] => { results := [.lit (.bool false)], args := [d1, d2, d3] }
  | _ => none }
def PtrPlaysWrongFalsely : Prop := ptrPlaysRow.holds Try.pinned (OpenSpec.ofChange ptrPlaysWrong)

/-- 'polderlaw09.PtrPlaces': WHATEVER THE INPUT: true; the input reads as it did. -/
def ptrPlacesSpec : ChangeSpec := { name := "ptrPlaces", fn := fun _ => fun
  | [d1, d2, d3] => { results := [.lit (.bool true)], args := [d1, d2, d3] }
  | _ => none }
def ptrPlacesRow : OpenClaim := { program := "ythpifplflhhkiaa", sum := "46c404b3c973a649639935e7e0e0a852961a21170c9b8e71a323dd39b8a76446", func := "polder/polderlaw09.PtrPlaces", spec := "ptrPlaces", inPlace := ["internal/abi.NoEscape", "internal/bytealg.MakeNoZero"], unfollowed := true, recurses := true, apart := false }
def PtrPlacesSaid : Prop := ptrPlacesRow.holds Try.pinned (OpenSpec.ofChange ptrPlacesSpec)

/-- ITS FALSE NEIGHBOUR: 'it returns false'. Refute it at one input. -/
def ptrPlacesWrong : ChangeSpec := { name := "ptrPlaces", fn := fun _ => fun
  | [d1, d2, d3] => { results := [.lit (.bool false)], args := [d1, d2, d3] }
  | _ => none }
def PtrPlacesWrongFalsely : Prop := ptrPlacesRow.holds Try.pinned (OpenSpec.ofChange ptrPlacesWrong)

/- THE SECOND FORM. 'bulk': how many values and letters a reading holds, each counted each time it is reached (what is shared counts as often as it is met; a slice's spare places count too). A statement '..UptoSaid' is the law's where the arguments, and the package variables that the reading takes, are together of bulk at most 1048576: NARROWER than '..Said'. Prove '..Said' where nothing that the law and all that it calls make is longer than what came in: it says more and counts as full. Else prove '..UptoSaid'. A law counts once. -/
mutual
def uptoBulk {H : Type} : DataW H → Nat
  | .lit (.string bytes) => bytes.length + 1
  | .lit _ => 1
  | .nil => 1
  | .ptr d => uptoBulk d + 1
  | .slice elems spare => uptoBulkAll elems + uptoBulkAll spare + 1
  | .agg parts => uptoBulkAll parts + 1
  | .iface _ d => uptoBulk d + 1
  | .map entries => uptoBulkEntries entries + 1
  | .held _ => 1
def uptoBulkAll {H : Type} : List (DataW H) → Nat
  | [] => 0
  | d :: r => uptoBulk d + uptoBulkAll r
def uptoBulkEntries {H : Type} : List (Lit × DataW H) → Nat
  | [] => 0
  | x :: r => uptoBulkEntry x + uptoBulkEntries r
def uptoBulkEntry {H : Type} : Lit × DataW H → Nat
  | (.string bytes, d) => bytes.length + uptoBulk d + 1
  | (_, d) => uptoBulk d + 1
 end
def uptoSmall : (H : Type) → List (DataW H) → Bool := fun _ ds => decide (uptoBulkAll ds ≤ 1048576)
def OpenSpec.upto (s : _root_.Go.ChangeSpec) : _root_.Go.OpenSpec := { _root_.Go.OpenSpec.ofChange s with cond := some uptoSmall }

/-- 'polderlaw09.PtrBack', WHERE WHAT IT READS IS OF BULK AT MOST 1048576: true; the input reads as it did. -/
def ptrBackUptoRow : OpenClaim := { program := "ythpifplflhhkiaa", sum := "46c404b3c973a649639935e7e0e0a852961a21170c9b8e71a323dd39b8a76446", func := "polder/polderlaw09.PtrBack", spec := "ptrBack", inPlace := ["internal/abi.NoEscape", "internal/bytealg.MakeNoZero"], apart := false, narrowed := true }
def PtrBackUptoSaid : Prop := ptrBackUptoRow.holds Try.pinned (OpenSpec.upto ptrBackSpec)

/-- 'polderlaw09.PtrOrder', WHERE WHAT IT READS IS OF BULK AT MOST 1048576: true; the input reads as it did. -/
def ptrOrderUptoRow : OpenClaim := { program := "ythpifplflhhkiaa", sum := "46c404b3c973a649639935e7e0e0a852961a21170c9b8e71a323dd39b8a76446", func := "polder/polderlaw09.PtrOrder", spec := "ptrOrder", inPlace := ["internal/abi.NoEscape", "internal/bytealg.MakeNoZero"], apart := false, narrowed := true }
def PtrOrderUptoSaid : Prop := ptrOrderUptoRow.holds Try.pinned (OpenSpec.upto ptrOrderSpec)

/-- 'polderlaw09.PtrPlays', WHERE WHAT IT READS IS OF BULK AT MOST 1048576: true; the input reads as it did. -/
def ptrPlaysUptoRow : OpenClaim := { program := "ythpifplflhhkiaa", sum := "46c404b3c973a649639935e7e0e0a852961a21170c9b8e71a323dd39b8a76446", func := "polder/polderlaw09.PtrPlays", spec := "ptrPlays", inPlace := ["internal/abi.NoEscape", "internal/bytealg.MakeNoZero"], unfollowed := true, recurses := true, apart := false, narrowed := true }
def PtrPlaysUptoSaid : Prop := ptrPlaysUptoRow.holds Try.pinned (OpenSpec.upto ptrPlaysSpec)

/-- 'polderlaw09.PtrPlaces', WHERE WHAT IT READS IS OF BULK AT MOST 1048576: true; the input reads as it did. -/
def ptrPlacesUptoRow : OpenClaim := { program := "ythpifplflhhkiaa", sum := "46c404b3c973a649639935e7e0e0a852961a21170c9b8e71a323dd39b8a76446", func := "polder/polderlaw09.PtrPlaces", spec := "ptrPlaces", inPlace := ["internal/abi.NoEscape", "internal/bytealg.MakeNoZero"], unfollowed := true, recurses := true, apart := false, narrowed := true }
def PtrPlacesUptoSaid : Prop := ptrPlacesUptoRow.holds Try.pinned (OpenSpec.upto ptrPlacesSpec)

end Rows
end Go.Proofs.Ythpifplflhhkiaa
