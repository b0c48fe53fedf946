/-
  Contracts of strip's leaves: numbers, begin, find, Size, the places of whole numbers; the document's begins.
-/
import Derived.Test.YtpkifcoichjnbaaSM
import Derived.Test.YtpkifcoichjnbaaWE
import Derived.Test.YtpkifcoichjnbaaOpen
namespace Go.Proofs.Ytpkifcoichjnbaa
open Go.RowKit Go.Deep
set_option linter.unusedVariables false

theorem ret2' {k l : IntKind} {a b c d : Int} (h : a = c) (g : b = d) : Ending.returned (.tuple #[.int k a, .int l b]) = .returned (.tuple #[.int k c, .int l d]) := by rw [h, g]

/-- The place of a whole number, and the whole number at a place. -/
def zig (x : Int) : Int := if x < 0 then 2 * (-(x + 1)) + 1 else 2 * x
def zag (x : Int) : Int := if x % 2 = 1 then -(x / 2) - 1 else x / 2
theorem zig_bd {x : Int} (h : I64 x) : 0 ≤ zig x ∧ zig x ≤ 18446744073709551615 := by unfold I64 at h; unfold zig; split <;> omega
theorem zag_zig (x : Int) : zag (zig x) = x := by unfold zag zig; split <;> split <;> omega

end Go.Proofs.Ytpkifcoichjnbaa
