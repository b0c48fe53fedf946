/-
  The document's answer for queues: Room of a right use; Room whole.
-/
import Derived.Test.YtdbkjcnanffibaaRP
import Derived.Test.YtdbkjcnanffibaaRS
namespace Go.Proofs.Ytdbkjcnanffibaa
open Go.RowKit Go.Deep Go.Maps Go.Shelf
set_option linter.unusedVariables false
set_option linter.unusedSimpArgs false

/-- Behind a region that drew. -/
theorem drewc {w : World} {a : Addr} {v : Value} (h : w.cell? a = some v) : w.drew.cell? a = some v := h
end Go.Proofs.Ytdbkjcnanffibaa
