/-
  Contracts: the document's sums, differences, products, comparisons.
-/
import Derived.Test.YtdbkjcnanffibaaWF
namespace Go.Proofs.Ytdbkjcnanffibaa
open Go.RowKit

theorem I128_small {n : Int} (h1 : -36893488147419103232 ≤ n) (h2 : n ≤ 36893488147419103232) : I128 n := by unfold I128 hi; omega

/-- Cmp's two answers. -/
def cmpv (a b c d : Int) : Int := if b < 1 ∨ d < 1 then 0 else ord (a * d) (c * b)
def cmpe (b d : Int) : Int := if b < 1 ∨ d < 1 then 1 else 0

end Go.Proofs.Ytdbkjcnanffibaa
