/-
  The greatest common divisor once more: it turns nothing in memory.
-/
import Derived.Test.YtmajoognpggcpaaWB
namespace Go.Proofs.Ytmajoognpggcpaa
open Go.RowKit

set_option maxHeartbeats 400000 in
theorem gcd_q (a b : Int) (ha : I64 a) (hb : I64 b) (w : World) :
    Calls Try.prog 28 #[.int .i64 a, .int .i64 b] w fun e w' => e = .returned (.int .i64 (gcdv a b)) ∧ ∃ n, w' = w.drewN n := by
  have ba := natAbs_le ha
  have bb := natAbs_le hb
  go_enter Try.func28, Try.ntmps28
  go_wp2_with fail
  refine (size_any a ha _).mono ?_
  rintro e w' ⟨rfl, rfl⟩
  go_wp2_with fail
  refine (size_any b hb _).mono ?_
  rintro e w' ⟨rfl, rfl⟩
  go_wp2_with fail
  go_loopw [5, 6] (fun x y wr => ∃ p q : Nat, x = .int .u64 p ∧ y = .int .u64 q ∧ p ≤ 9223372036854775808 ∧ q ≤ 9223372036854775808 ∧ Hid (Nat.gcd p q = Nat.gcd a.natAbs b.natAbs) ∧ ∃ n, wr = w.drewN n) (fun _ y _ => (intOf y).toNat)
  case atStart => exact ⟨_, _, rfl, rfl, ba, bb, rfl, 0, rfl⟩
  case round =>
    obtain ⟨p, q, rfl, rfl, hp, hq, hg, nd, rfl⟩ := hrel
    by_cases hz : q = 0
    · subst hz
      go_wp2
      · go_ret
        exact ⟨ret1 (gcd_end_eq hg ‹_›), nd, rfl⟩
      · go_ret
        exact ⟨ret1 (gcd_end_ne hg hp ‹_›), nd, rfl⟩
    · have hz' : ((q : Int) != 0) = true := by simp; omega
      have hq0 : 0 < q := by omega
      clear hz
      go_wp2_with fail
      go_quiet (fail)
      go_wp2_with fail
      have hm := Nat.mod_lt p hq0
      go_roundw
      case rel => exact ⟨q, p % q, rfl, by go_num, hq, by omega, gcd_step hg, nd + nq, by rw [World.drewN_drewN]⟩
      case measure => simp [intOf]; omega

theorem gcd_quiet (a b : Int) (ha : I64 a) (hb : I64 b) (w : World) (n : Nat) :
    Calls Try.prog 28 #[.int .i64 a, .int .i64 b] (w.drewN n) fun e w'' => e = .returned (.int .i64 (gcdv a b)) ∧ ∃ m, w'' = w.drewN m :=
  Calls.quiet_of (gcd_q a b ha hb (w.drewN n))

end Go.Proofs.Ytmajoognpggcpaa
