/-
  Contracts of strip: the weights that stand behind bytes; how much they are above the right ones.
-/
import Derived.Test.YtpkifcoichjnbaaSJ
namespace Go.Proofs.Ytpkifcoichjnbaa
open Go.RowKit Go.Deep
set_option linter.unusedVariables false

theorem or8i {v x : Int} (v0 : 0 ≤ v) (v1 : v ≤ 255) (x0 : 0 ≤ x) (x1 : x ≤ 255) : bits .or .i64 (v * 256) x = v * 256 + x := by
  obtain ⟨a, rfl⟩ := Int.eq_ofNat_of_zero_le v0
  obtain ⟨b, rfl⟩ := Int.eq_ofNat_of_zero_le x0
  have e : (a : Int) * 256 = ((a * 256 : Nat) : Int) := by omega
  have hx : a * 256 ||| b < 2 ^ 16 := Nat.or_lt_two_pow (by omega) (by omega)
  have h2 : a * 256 ||| b = a * 256 + b := nat_join 8 _ _ (by omega) (by omega)
  rw [e]
  show IntKind.i64.wrap ((BitVec.ofInt 64 ((a * 256 : Nat) : Int) ||| BitVec.ofInt 64 (b : Int)).toNat : Int) = _
  rw [BitVec.toNat_or, ofInt_u64 _ (by omega), ofInt_u64 b (by omega), h2, IntKind.wrap_i64]
  omega
theorem or8i0 {x : Int} (x0 : 0 ≤ x) (x1 : x ≤ 255) : bits .or .i64 0 x = x := by
  have := or8i (v := 0) (by omega) (by omega) x0 x1
  simpa using this

end Go.Proofs.Ytpkifcoichjnbaa
