/-
  The document's answer for queues: Check.
-/
import Derived.Test.YtdbkjcnanffibaaQY
namespace Go.Proofs.Ytdbkjcnanffibaa
open Go.RowKit Go.Deep Go.Maps Go.Shelf
set_option linter.unusedVariables false
end Go.Proofs.Ytdbkjcnanffibaa
