/-
  Contracts: sizes without sign, greatest common divisors.
-/
import Derived.Test.YtpkifcoichjnbaaWA
import Derived.BigQuiet
namespace Go.Proofs.Ytpkifcoichjnbaa
open Go.RowKit

theorem neg_u64 {a : Int} (h1 : -9223372036854775808 ≤ a) (h2 : a < 0) : IntKind.u64.wrap (-IntKind.u64.wrap a) = (a.natAbs : Int) := by
  rw [IntKind.wrap_u64, IntKind.wrap_u64]; omega

theorem gcd_step {p q G : Nat} (h : Hid (Nat.gcd p q = G)) : Hid (Nat.gcd q (p % q) = G) := by
  show Nat.gcd q (p % q) = G
  rw [← h.out, Nat.gcd_comm p q, Nat.gcd_rec q p, Nat.gcd_comm]

theorem gcd_end_ne {p : Nat} {a b : Int} (h : Hid (Nat.gcd p 0 = Nat.gcd a.natAbs b.natAbs)) (hp : p ≤ 9223372036854775808) (hne : ((p : Int) == 9223372036854775808) = false) : wrap64 (p : Int) = gcdv a b := by
  have h' := h.out
  rw [Nat.gcd_zero_right] at h'
  have hq : (p : Int) ≠ 9223372036854775808 := by simpa using hne
  unfold gcdv
  rw [← h', if_neg (by omega)]
  exact w64_in (by omega) (by omega)

theorem gcd_end_ne2 {p : Nat} {a b : Int} (h : Hid (Nat.gcd p 0 = Nat.gcd a.natAbs b.natAbs)) (hp : p ≤ 9223372036854775807) : (p : Int) = gcdv a b := by
  have h' := h.out
  rw [Nat.gcd_zero_right] at h'
  unfold gcdv
  rw [← h', if_neg (by omega)]

theorem gcd_end_eq {p : Nat} {a b : Int} (h : Hid (Nat.gcd p 0 = Nat.gcd a.natAbs b.natAbs)) (he : ((p : Int) == 9223372036854775808) = true) : 0 = gcdv a b := by
  have h' := h.out
  rw [Nat.gcd_zero_right] at h'
  have hq : (p : Int) = 9223372036854775808 := by simpa using he
  unfold gcdv
  rw [← h', if_pos (by omega)]

end Go.Proofs.Ytpkifcoichjnbaa
