/-
  The document's answer for queues: the Mins, Check.
-/
import Derived.Test.YtdbkjcnanffibaaQX
import Derived.Test.YtdbkjcnanffibaaQF
import Derived.Test.YtdbkjcnanffibaaQK
namespace Go.Proofs.Ytdbkjcnanffibaa
open Go.RowKit Go.Deep Go.Maps Go.Shelf
set_option linter.unusedVariables false
end Go.Proofs.Ytdbkjcnanffibaa
