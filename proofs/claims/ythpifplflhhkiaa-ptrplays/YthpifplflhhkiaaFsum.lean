/-
  fletch.Sum, More: what they answer; the document's examples.
-/
import Derived.Test.YthpifplflhhkiaaFgr
import Derived.Test.YthpifplflhhkiaaFq
namespace Go.Proofs.Ythpifplflhhkiaa
set_option maxRecDepth 100000
open Go.RowKit Go.Shelf M

end Go.Proofs.Ythpifplflhhkiaa
