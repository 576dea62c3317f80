/-
  No cell of these rows narrows 'for every input' (looked for: loops, veiled, ifaces, maps, wideKeys, modest, calm, conditions, laid).
  DERIVED. THE GIVEN ROWS OF THIS SEAT. 5 by the template 'for every input the law returns true; each argument reads behind the call as it read before'; 0 by the template 'total and deterministic' (their statements: YtckfhphobjjojaaTotals.lean).
  GIVEN WITH THE SEED: the statements are not yours to turn. If you find one false, say at which input.
  Laid BY PROGRAM, IN A SANDBOX (cutbox-rows.mjs): the forced cells as the released guide's own fill.sh prints them over the translation 29426d7aedc04cb1… (all of the seat's roots in one cut). By AI agents, Wed Nov 11 2026. No macro, syntax, notation, axiom, sorry.
-/
import Derived.Test.YtckfhphobjjojaaChecked
import GoSem.Claim
import GoSem.ClaimJoined
import GoSem.ClaimMapViews
import Derived.JoinedTies
import Derived.KernelRfl
namespace Go.Proofs.Ytckfhphobjjojaa
/- THE CELL 'sum', in the pinned program and in every row, IS THE sha256 OF THE DUMP (.gsa) THAT YtckfhphobjjojaaProg.lean LOADS. Nothing in Lean hashes anything: it is a label: what it is worth is what the hold of that sum in a sandbox is worth. -/
noncomputable def Try.pinned : Pinned := { name := "ytckfhphobjjojaa", sum := "29426d7aedc04cb182027262e4fb8df4433ed9f7918ef04aefebd758494f4266", checked := Try.checked }
namespace Rows
def none {H : Type} : Left H := { results := [], args := [] }

/-- 'polderlaw03.ParAgain': WHATEVER THE INPUT: true; the input reads as it did. -/
def parAgainSpec : ChangeSpec := { name := "parAgain", fn := fun _ => fun
  | [d1, d2, d3] => { results := [.lit (.bool true)], args := [d1, d2, d3] }
  | _ => none }
def parAgainRow : OpenClaim := { program := "ytckfhphobjjojaa", sum := "29426d7aedc04cb182027262e4fb8df4433ed9f7918ef04aefebd758494f4266", func := "polder/polderlaw03.ParAgain", spec := "parAgain", unfollowed := true, recurses := true, apart := false }
def ParAgainSaid : Prop := parAgainRow.holds Try.pinned (OpenSpec.ofChange parAgainSpec)

/-- ITS FALSE NEIGHBOUR: 'it returns false'. Refute it at one input. -/
def parAgainWrong : ChangeSpec := { name := "parAgain", fn := fun _ => fun
  | [d1, d2, d3] => { results := [.lit (.bool false)], args := [d1, d2, d3] }
  | _ => none }
def ParAgainWrongFalsely : Prop := parAgainRow.holds Try.pinned (OpenSpec.ofChange parAgainWrong)

/-- 'polderlaw03.ParOrder': WHATEVER THE INPUT: true; the input reads as it did. -/
def parOrderSpec : ChangeSpec := { name := "parOrder", fn := fun _ => fun
  | [d1, d2, d3] => { results := [.lit (.bool true)], args := [d1, d2, d3] }
  | _ => none }
def parOrderRow : OpenClaim := { program := "ytckfhphobjjojaa", sum := "29426d7aedc04cb182027262e4fb8df4433ed9f7918ef04aefebd758494f4266", func := "polder/polderlaw03.ParOrder", spec := "parOrder", unfollowed := true, recurses := true, apart := false }
def ParOrderSaid : Prop := parOrderRow.holds Try.pinned (OpenSpec.ofChange parOrderSpec)

/-- ITS FALSE NEIGHBOUR: 'it returns false'. Refute it at one input. -/
def parOrderWrong : ChangeSpec := { name := "parOrder", fn := fun _ => fun
  | [d1, d2, d3] => { results := [.lit (.bool false)], args := [d1, d2, d3] }
  | _ => none }
def ParOrderWrongFalsely : Prop := parOrderRow.holds Try.pinned (OpenSpec.ofChange parOrderWrong)

/-- 'polderlaw03.ParPlays': WHATEVER THE INPUT: true; the input reads as it did. -/
def parPlaysSpec : ChangeSpec := { name := "parPlays", fn := fun _ => fun
  | [d1, d2, d3] => { results := [.lit (.bool true)], args := [d1, d2, d3] }
  | _ => none }
def parPlaysRow : OpenClaim := { program := "ytckfhphobjjojaa", sum := "29426d7aedc04cb182027262e4fb8df4433ed9f7918ef04aefebd758494f4266", func := "polder/polderlaw03.ParPlays", spec := "parPlays", unfollowed := true, recurses := true, apart := false }
def ParPlaysSaid : Prop := parPlaysRow.holds Try.pinned (OpenSpec.ofChange parPlaysSpec)

/-- ITS FALSE NEIGHBOUR: 'it returns false'. Refute it at one input. -/
def parPlaysWrong : ChangeSpec := { name := "parPlays", fn := fun _ => fun
  | [d1, d2, d3] => { results := [.lit (.bool false)], args := [d1, d2, d3] }
  | _ => none }
def ParPlaysWrongFalsely : Prop := parPlaysRow.holds Try.pinned (OpenSpec.ofChange parPlaysWrong)

/-- 'polderlaw03.ParSums': WHATEVER THE INPUT: true; the input reads as it did. -/
def parSumsSpec : ChangeSpec := { name := "parSums", fn := fun _ => fun
  | [d1, d2] => { results := [.lit (.bool true)], args := [d1, d2] }
  | _ => none }
def parSumsRow : OpenClaim := { program := "ytckfhphobjjojaa", sum := "29426d7aedc04cb182027262e4fb8df4433ed9f7918ef04aefebd758494f4266", func := "polder/polderlaw03.ParSums", spec := "parSums", unfollowed := true, recurses := true, apart := false }
def ParSumsSaid : Prop := parSumsRow.holds Try.pinned (OpenSpec.ofChange parSumsSpec)

/-- ITS FALSE NEIGHBOUR: 'it returns false'. Refute it at one input. -/
def parSumsWrong : ChangeSpec := { name := "parSums", fn := fun _ => fun
  | [d1, d2] => { results := [.lit (.bool false)], args := [d1, d2] }
  | _ => none }
def ParSumsWrongFalsely : Prop := parSumsRow.holds Try.pinned (OpenSpec.ofChange parSumsWrong)

/-- 'polderlaw03.ParBlank': WHATEVER THE INPUT: true; the input reads as it did. -/
def parBlankSpec : ChangeSpec := { name := "parBlank", fn := fun _ => fun
  | [d] => { results := [.lit (.bool true)], args := [d] }
  | _ => none }
def parBlankRow : OpenClaim := { program := "ytckfhphobjjojaa", sum := "29426d7aedc04cb182027262e4fb8df4433ed9f7918ef04aefebd758494f4266", func := "polder/polderlaw03.ParBlank", spec := "parBlank", unfollowed := true, recurses := true, apart := false }
def ParBlankSaid : Prop := parBlankRow.holds Try.pinned (OpenSpec.ofChange parBlankSpec)

/-- ITS FALSE NEIGHBOUR: 'it returns false'. Refute it at one input. -/
def parBlankWrong : ChangeSpec := { name := "parBlank", fn := fun _ => fun
  | [d] => { results := [.lit (.bool false)], args := [d] }
  | _ => none }
def ParBlankWrongFalsely : Prop := parBlankRow.holds Try.pinned (OpenSpec.ofChange parBlankWrong)

/- THE SECOND FORM. 'bulk': how many values and letters a reading holds, each counted each time it is reached (what is shared counts as often as it is met; a slice's spare places count too). A statement '..UptoSaid' is the law's where the arguments, and the package variables that the reading takes, are together of bulk at most 1048576: NARROWER than '..Said'. Prove '..Said' where nothing that the law and all that it calls make is longer than what came in: it says more and counts as full. Else prove '..UptoSaid'. A law counts once. -/
mutual
def uptoBulk {H : Type} : DataW H → Nat
  | .lit (.string bytes) => bytes.length + 1
  | .lit _ => 1
  | .nil => 1
  | .ptr d => uptoBulk d + 1
  | .slice elems spare => uptoBulkAll elems + uptoBulkAll spare + 1
  | .agg parts => uptoBulkAll parts + 1
  | .iface _ d => uptoBulk d + 1
  | .map entries => uptoBulkEntries entries + 1
  | .held _ => 1
def uptoBulkAll {H : Type} : List (DataW H) → Nat
  | [] => 0
  | d :: r => uptoBulk d + uptoBulkAll r
def uptoBulkEntries {H : Type} : List (Lit × DataW H) → Nat
  | [] => 0
  | x :: r => uptoBulkEntry x + uptoBulkEntries r
def uptoBulkEntry {H : Type} : Lit × DataW H → Nat
  | (.string bytes, d) => bytes.length + uptoBulk d + 1
  | (_, d) => uptoBulk d + 1
 end
def uptoSmall : (H : Type) → List (DataW H) → Bool := fun _ ds => decide (uptoBulkAll ds ≤ 1048576)
def OpenSpec.upto (s : _root_.Go.ChangeSpec) : _root_.Go.OpenSpec := { _root_.Go.OpenSpec.ofChange s with cond := some uptoSmall }

/-- 'polderlaw03.ParAgain', WHERE WHAT IT READS IS OF BULK AT MOST 1048576: true; the input reads as it did. -/
def parAgainUptoRow : OpenClaim := { program := "ytckfhphobjjojaa", sum := "29426d7aedc04cb182027262e4fb8df4433ed9f7918ef04aefebd758494f4266", func := "polder/polderlaw03.ParAgain", spec := "parAgain", unfollowed := true, recurses := true, apart := false, narrowed := true }
def ParAgainUptoSaid : Prop := parAgainUptoRow.holds Try.pinned (OpenSpec.upto parAgainSpec)

/-- 'polderlaw03.ParOrder', WHERE WHAT IT READS IS OF BULK AT MOST 1048576: true; the input reads as it did. -/
def parOrderUptoRow : OpenClaim := { program := "ytckfhphobjjojaa", sum := "29426d7aedc04cb182027262e4fb8df4433ed9f7918ef04aefebd758494f4266", func := "polder/polderlaw03.ParOrder", spec := "parOrder", unfollowed := true, recurses := true, apart := false, narrowed := true }
def ParOrderUptoSaid : Prop := parOrderUptoRow.holds Try.pinned (OpenSpec.upto parOrderSpec)

/-- 'polderlaw03.ParPlays', WHERE WHAT IT READS IS OF BULK AT MOST 1048576: true; the input reads as it did. -/
def parPlaysUptoRow : OpenClaim := { program := "ytckfhphobjjojaa", sum := "29426d7aedc04cb182027262e4fb8df4433ed9f7918ef04aefebd758494f4266", func := "polder/polderlaw03.ParPlays", spec := "parPlays", unfollowed := true, recurses := true, apart := false, narrowed := true }
def ParPlaysUptoSaid : Prop := parPlaysUptoRow.holds Try.pinned (OpenSpec.upto parPlaysSpec)

/-- 'polderlaw03.ParSums', WHERE WHAT IT READS IS OF BULK AT MOST 1048576: true; the input reads as it did. -/
def parSumsUptoRow : OpenClaim := { program := "ytckfhphobjjojaa", sum := "29426d7aedc04cb182027262e4fb8df4433ed9f7918ef04aefebd758494f4266", func := "polder/polderlaw03.ParSums", spec := "parSums", unfollowed := true, recurses := true, apart := false, narrowed := true }
def ParSumsUptoSaid : Prop := parSumsUptoRow.holds Try.pinned (OpenSpec.upto parSumsSpec)

/-- 'polderlaw03.ParBlank', WHERE WHAT IT READS IS OF BULK AT MOST 1048576: true; the input reads as it did. -/
def parBlankUptoRow : OpenClaim := { program := "ytckfhphobjjojaa", sum := "29426d7aedc04cb182027262e4fb8df4433ed9f7918ef04aefebd758494f4266", func := "polder/polderlaw03.ParBlank", spec := "parBlank", unfollowed := true, recurses := true, apart := false, narrowed := true }
def ParBlankUptoSaid : Prop := parBlankUptoRow.holds Try.pinned (OpenSpec.upto parBlankSpec)

end Rows
end Go.Proofs.Ytckfhphobjjojaa
