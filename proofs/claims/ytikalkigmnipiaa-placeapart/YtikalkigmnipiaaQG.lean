/-
  Contracts of queue: has, queue.
-/
import Derived.Test.YtikalkigmnipiaaQD
namespace Go.Proofs.Ytikalkigmnipiaa
open Go.RowKit Go.Deep Go.Maps Go.Shelf
set_option linter.unusedVariables false
/-- A queue's value. -/
abbrev qv (q : Qu) : Value := .agg #[.int .i64 q.id, .int .i64 q.par, .int .i64 q.wt, .int .i64 q.qc, .int .i64 q.qm, .int .i64 q.mc, .int .i64 q.mm]

end Go.Proofs.Ytikalkigmnipiaa
