/-
  Contracts of queue: Room.
-/
import Derived.Test.YtglifgnaecbniaaRU
import Derived.Test.YtglifgnaecbniaaRQ
namespace Go.Proofs.Ytglifgnaecbniaa
open Go.RowKit Go.Deep Go.Maps Go.Shelf
set_option linter.unusedVariables false
set_option linter.unusedSimpArgs false
end Go.Proofs.Ytglifgnaecbniaa
