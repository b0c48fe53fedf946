/-
  Contracts: sizes without sign, greatest common divisors.
-/
import Derived.Test.YtmdhcigkhapolaaWA
import Derived.BigQuiet
namespace Go.Proofs.Ytmdhcigkhapolaa
open Go.RowKit

theorem neg_u64 {a : Int} (h1 : -9223372036854775808 ≤ a) (h2 : a < 0) : IntKind.u64.wrap (-IntKind.u64.wrap a) = (a.natAbs : Int) := by
  rw [IntKind.wrap_u64, IntKind.wrap_u64]; omega

set_option maxHeartbeats 400000 in
theorem size_any (a : Int) (ha : I64 a) (w : World) :
    Calls Try.prog 32 #[.int .i64 a] w fun e w' => e = .returned (.int .u64 (a.natAbs : Int)) ∧ w = w' := by
  obtain ⟨ha1, ha2⟩ := ha
  by_cases hn : a < 0
  · go_enter Try.func32, Try.ntmps32
    go_wp2
    go_ret
    exact ⟨ret1 (neg_u64 ha1 hn), rfl⟩
  · go_enter Try.func32, Try.ntmps32
    go_wp2
    go_ret
    refine ⟨ret1 ?_, rfl⟩
    omega

set_option maxHeartbeats 400000 in
theorem rsize_any (a : Int) (ha : I64 a) (w : World) :
    Calls Try.prog 81 #[.int .i64 a] w fun e w' => e = .returned (.int .u64 (a.natAbs : Int)) ∧ w = w' := by
  obtain ⟨ha1, ha2⟩ := ha
  by_cases hn : a < 0
  · go_enter Try.func81, Try.ntmps81
    go_wp2
    go_ret
    exact ⟨ret1 (neg_u64 ha1 hn), rfl⟩
  · go_enter Try.func81, Try.ntmps81
    go_wp2
    go_ret
    refine ⟨ret1 ?_, rfl⟩
    omega

theorem gcd_step {p q G : Nat} (h : Hid (Nat.gcd p q = G)) : Hid (Nat.gcd q (p % q) = G) := by
  show Nat.gcd q (p % q) = G
  rw [← h.out, Nat.gcd_comm p q, Nat.gcd_rec q p, Nat.gcd_comm]

theorem gcd_end_ne {p : Nat} {a b : Int} (h : Hid (Nat.gcd p 0 = Nat.gcd a.natAbs b.natAbs)) (hp : p ≤ 9223372036854775808) (hne : ((p : Int) == 9223372036854775808) = false) : wrap64 (p : Int) = gcdv a b := by
  have h' := h.out
  rw [Nat.gcd_zero_right] at h'
  have hq : (p : Int) ≠ 9223372036854775808 := by simpa using hne
  unfold gcdv
  rw [← h', if_neg (by omega)]
  exact w64_in (by omega) (by omega)

theorem gcd_end_ne2 {p : Nat} {a b : Int} (h : Hid (Nat.gcd p 0 = Nat.gcd a.natAbs b.natAbs)) (hp : p ≤ 9223372036854775807) : (p : Int) = gcdv a b := by
  have h' := h.out
  rw [Nat.gcd_zero_right] at h'
  unfold gcdv
  rw [← h', if_neg (by omega)]

theorem gcd_end_eq {p : Nat} {a b : Int} (h : Hid (Nat.gcd p 0 = Nat.gcd a.natAbs b.natAbs)) (he : ((p : Int) == 9223372036854775808) = true) : 0 = gcdv a b := by
  have h' := h.out
  rw [Nat.gcd_zero_right] at h'
  have hq : (p : Int) = 9223372036854775808 := by simpa using he
  unfold gcdv
  rw [← h', if_pos (by omega)]

set_option maxHeartbeats 400000 in
theorem gcd_any (a b : Int) (ha : I64 a) (hb : I64 b) (w : World) :
    Calls Try.prog 30 #[.int .i64 a, .int .i64 b] w fun e w' => e = .returned (.int .i64 (gcdv a b)) ∧ Below w.heap.size w w' := by
  have ba := natAbs_le ha
  have bb := natAbs_le hb
  go_enter Try.func30, Try.ntmps30
  go_wp2_with fail
  refine (size_any a ha _).mono ?_
  rintro e w' ⟨rfl, rfl⟩
  go_wp2_with fail
  refine (size_any b hb _).mono ?_
  rintro e w' ⟨rfl, rfl⟩
  go_wp2_with fail
  go_loopw [5, 6] (fun x y wr => ∃ p q : Nat, x = .int .u64 p ∧ y = .int .u64 q ∧ p ≤ 9223372036854775808 ∧ q ≤ 9223372036854775808 ∧ Hid (Nat.gcd p q = Nat.gcd a.natAbs b.natAbs) ∧ Below w.heap.size w wr) (fun _ y _ => (intOf y).toNat)
  case atStart => exact ⟨_, _, rfl, rfl, ba, bb, rfl, Below.refl _ _⟩
  case round =>
    obtain ⟨p, q, rfl, rfl, hp, hq, hg, hB⟩ := hrel
    by_cases hz : q = 0
    · subst hz
      go_wp2
      · go_ret
        exact ⟨ret1 (gcd_end_eq hg ‹_›), hB⟩
      · go_ret
        exact ⟨ret1 (gcd_end_ne hg hp ‹_›), hB⟩
    · have hz' : ((q : Int) != 0) = true := by simp; omega
      have hq0 : 0 < q := by omega
      clear hz
      go_wp2_with fail
      go_quiet (fail)
      go_wp2_with fail
      have hm := Nat.mod_lt p hq0
      go_roundw
      case rel => exact ⟨q, p % q, rfl, by go_num, hq, by omega, gcd_step hg, below_drewN hB _⟩
      case measure => simp [intOf]; omega

end Go.Proofs.Ytmdhcigkhapolaa
