/-
  Contracts: products and narrowing of the document's numbers; the document's sums, differences, products, comparisons.
-/
import Derived.Test.YtdbkjcnanffibaaWE
namespace Go.Proofs.Ytdbkjcnanffibaa
open Go.RowKit

theorem prod_abs {a b : Int} (ha : I64 a) (hb : I64 b) : (a * b).natAbs ≤ 85070591730234615865843651857942052864 := by
  rw [Int.natAbs_mul]
  exact Nat.mul_le_mul (natAbs_le ha) (natAbs_le hb)
theorem I128_of {n : Int} (h : n.natAbs ≤ 85070591730234615865843651857942052864) : I128 n := by unfold I128 hi; omega
theorem I128_mul {a b : Int} (ha : I64 a) (hb : I64 b) : I128 (a * b) := I128_of (prod_abs ha hb)
theorem I128_mul_neg {a b : Int} (ha : I64 a) (hb : I64 b) : I128 (-(a * b)) := I128_of (by rw [Int.natAbs_neg]; exact prod_abs ha hb)

theorem abs_same {a b : Int} (h : (a < 0) = (b < 0)) : ((a.natAbs * b.natAbs : Nat) : Int) = a * b := by
  by_cases ha : a < 0
  · have hb : b < 0 := by rw [← h]; exact ha
    have e1 : (a.natAbs : Int) = -a := by omega
    have e2 : (b.natAbs : Int) = -b := by omega
    rw [Int.natCast_mul, e1, e2, Int.neg_mul_neg]
  · have hb : ¬ b < 0 := by rw [← h]; exact ha
    have e1 : (a.natAbs : Int) = a := by omega
    have e2 : (b.natAbs : Int) = b := by omega
    rw [Int.natCast_mul, e1, e2]
theorem abs_diff {a b : Int} (h : (a < 0) ≠ (b < 0)) : ((a.natAbs * b.natAbs : Nat) : Int) = -(a * b) := by
  by_cases ha : a < 0
  · have hb : ¬ b < 0 := fun hb => h (by simp [ha, hb])
    have e1 : (a.natAbs : Int) = -a := by omega
    have e2 : (b.natAbs : Int) = b := by omega
    rw [Int.natCast_mul, e1, e2, Int.neg_mul]
  · have hb : b < 0 := Classical.byContradiction fun hb => h (by simp [ha, hb])
    have e1 : (a.natAbs : Int) = a := by omega
    have e2 : (b.natAbs : Int) = -b := by omega
    rw [Int.natCast_mul, e1, e2, Int.mul_neg]
theorem half_hl (p : Nat) : ((p / 18446744073709551616 : Nat) : Int) = hi (p : Int) ∧ ((p % 18446744073709551616 : Nat) : Int) = lo (p : Int) := by
  unfold hi lo; omega

theorem lo_wrap {n : Int} (h1 : -9223372036854775808 ≤ n) (h2 : n ≤ 9223372036854775807) : IntKind.i64.wrap (lo n) = n := by
  rw [IntKind.wrap_i64]; unfold lo; omega
theorem lo_wrap' {n : Int} (h1 : -9223372036854775808 ≤ n) (h2 : n ≤ 9223372036854775807) : wrap64 (lo n) = n := by
  unfold wrap64 lo; omega
theorem lo_wrap_I64 (n : Int) : I64 (IntKind.i64.wrap (lo n)) := by
  rw [IntKind.wrap_i64]; unfold I64 lo; omega
theorem lo_wrap_ne {n : Int} (h : ¬ (-9223372036854775808 ≤ n ∧ n ≤ 9223372036854775807)) : hi (IntKind.i64.wrap (lo n)) ≠ hi n := by
  rw [IntKind.wrap_i64]; unfold hi lo; omega

end Go.Proofs.Ytdbkjcnanffibaa
