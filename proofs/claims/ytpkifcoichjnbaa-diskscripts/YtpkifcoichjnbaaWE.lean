/-
  Contracts: differences, products, narrowing of the document's numbers.
-/
import Derived.Test.YtpkifcoichjnbaaWD
namespace Go.Proofs.Ytpkifcoichjnbaa
open Go.RowKit

/-- -1, 0, 1. -/
def ord (a b : Int) : Int := if a < b then -1 else if b < a then 1 else 0

theorem not_i64 {n : Int} (h1 : -9223372036854775808 ≤ n) (h2 : n ≤ 9223372036854775807) : bits .xor .i64 (-1) n = -n - 1 := by
  show IntKind.i64.wrap ((BitVec.ofInt 64 (-1) ^^^ BitVec.ofInt 64 n).toNat : Int) = _
  rw [show BitVec.ofInt 64 (-1) = BitVec.allOnes 64 by decide, BitVec.allOnes_xor, BitVec.toNat_not, BitVec.toNat_ofInt]
  simp [IntKind.wrap, IntKind.bits, IntKind.signed]
  omega
theorem not_u64 {n : Int} (h1 : 0 ≤ n) (h2 : n ≤ 18446744073709551615) : bits .xor .u64 IntKind.u64.max n = 18446744073709551615 - n := by
  show IntKind.u64.wrap ((BitVec.ofInt 64 18446744073709551615 ^^^ BitVec.ofInt 64 n).toNat : Int) = _
  rw [show BitVec.ofInt 64 18446744073709551615 = BitVec.allOnes 64 by decide, BitVec.allOnes_xor, BitVec.toNat_not, BitVec.toNat_ofInt]
  simp [IntKind.wrap, IntKind.bits, IntKind.signed]
  omega

theorem neg_hl (b : Int) : hi (-b - 1) = -hi b - 1 ∧ lo (-b - 1) = 18446744073709551615 - lo b := by
  have := lo_bd b; have := hilo b
  exact ⟨hi_of (l := 18446744073709551615 - lo b) (by omega) (by omega) (by omega), lo_of (h := -hi b - 1) (by omega) (by omega) (by omega)⟩
theorem hl_one : hi 1 = 0 ∧ lo 1 = 1 := by decide
theorem hl_zero : hi 0 = 0 ∧ lo 0 = 0 := by decide

end Go.Proofs.Ytpkifcoichjnbaa
