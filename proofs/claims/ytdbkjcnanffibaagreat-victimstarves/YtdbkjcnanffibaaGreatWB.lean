/-
  Contracts: sizes without sign, greatest common divisors.
-/
import Derived.Test.YtdbkjcnanffibaaGreatWA
import Derived.BigQuiet
namespace Go.Proofs.YtdbkjcnanffibaaGreat
open Go.RowKit

theorem neg_u64 {a : Int} (h1 : -9223372036854775808 ≤ a) (h2 : a < 0) : IntKind.u64.wrap (-IntKind.u64.wrap a) = (a.natAbs : Int) := by
  rw [IntKind.wrap_u64, IntKind.wrap_u64]; omega

set_option maxHeartbeats 400000 in
theorem size_any (a : Int) (ha : I64 a) (w : World) :
    Calls Tryz.prog 115 #[.int .i64 a] w fun e w' => e = .returned (.int .u64 (a.natAbs : Int)) ∧ w = w' := by
  obtain ⟨ha1, ha2⟩ := ha
  by_cases hn : a < 0
  · go_enter Tryz.func115, Tryz.ntmps115
    go_wp2
    go_ret
    exact ⟨ret1 (neg_u64 ha1 hn), rfl⟩
  · go_enter Tryz.func115, Tryz.ntmps115
    go_wp2
    go_ret
    refine ⟨ret1 ?_, rfl⟩
    omega

set_option maxHeartbeats 400000 in
theorem rsize_any (a : Int) (ha : I64 a) (w : World) :
    Calls Tryz.prog 84 #[.int .i64 a] w fun e w' => e = .returned (.int .u64 (a.natAbs : Int)) ∧ w = w' := by
  obtain ⟨ha1, ha2⟩ := ha
  by_cases hn : a < 0
  · go_enter Tryz.func84, Tryz.ntmps84
    go_wp2
    go_ret
    exact ⟨ret1 (neg_u64 ha1 hn), rfl⟩
  · go_enter Tryz.func84, Tryz.ntmps84
    go_wp2
    go_ret
    refine ⟨ret1 ?_, rfl⟩
    omega

theorem gcd_step {p q G : Nat} (h : Hid (Nat.gcd p q = G)) : Hid (Nat.gcd q (p % q) = G) := by
  show Nat.gcd q (p % q) = G
  rw [← h.out, Nat.gcd_comm p q, Nat.gcd_rec q p, Nat.gcd_comm]

theorem gcd_end_ne {p : Nat} {a b : Int} (h : Hid (Nat.gcd p 0 = Nat.gcd a.natAbs b.natAbs)) (hp : p ≤ 9223372036854775808) (hne : ((p : Int) == 9223372036854775808) = false) : wrap64 (p : Int) = gcdv a b := by
  have h' := h.out
  rw [Nat.gcd_zero_right] at h'
  have hq : (p : Int) ≠ 9223372036854775808 := by simpa using hne
  unfold gcdv
  rw [← h', if_neg (by omega)]
  exact w64_in (by omega) (by omega)

theorem gcd_end_ne2 {p : Nat} {a b : Int} (h : Hid (Nat.gcd p 0 = Nat.gcd a.natAbs b.natAbs)) (hp : p ≤ 9223372036854775807) : (p : Int) = gcdv a b := by
  have h' := h.out
  rw [Nat.gcd_zero_right] at h'
  unfold gcdv
  rw [← h', if_neg (by omega)]

theorem gcd_end_eq {p : Nat} {a b : Int} (h : Hid (Nat.gcd p 0 = Nat.gcd a.natAbs b.natAbs)) (he : ((p : Int) == 9223372036854775808) = true) : 0 = gcdv a b := by
  have h' := h.out
  rw [Nat.gcd_zero_right] at h'
  have hq : (p : Int) = 9223372036854775808 := by simpa using he
  unfold gcdv
  rw [← h', if_pos (by omega)]

end Go.Proofs.YtdbkjcnanffibaaGreat
