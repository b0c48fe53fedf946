/-
  Contracts of queue: the map of places.
-/
import Derived.Test.YtikalkigmnipiaaQB
namespace Go.Proofs.Ytikalkigmnipiaa
open Go.RowKit Go.Deep Go.Maps
set_option linter.unusedVariables false

theorem formB_nil {l : List Qu} (h : l.length = 0) : formB l = false := by
  obtain rfl := List.length_eq_zero_iff.1 h; rfl

end Go.Proofs.Ytikalkigmnipiaa
