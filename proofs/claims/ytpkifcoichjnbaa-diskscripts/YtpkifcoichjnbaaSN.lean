/-
  Contracts of strip: the weights, with the worlds that the calls leave written out.
-/
import Derived.Test.YtpkifcoichjnbaaSL
namespace Go.Proofs.Ytpkifcoichjnbaa
open Go.RowKit Go.Deep
set_option linter.unusedVariables false

def drewn (w : World) : Nat → World | 0 => w | n + 1 => (drewn w n).drew
theorem two_alloc {w : World} {o o' : Obj} {a : Addr} {v : Value} (h : w.cell? a = some v) : ((w.alloc o).alloc o').cell? a = some v := keepc (below_alloc' _ o') (keepc (below_alloc' w o) h)

end Go.Proofs.Ytpkifcoichjnbaa
