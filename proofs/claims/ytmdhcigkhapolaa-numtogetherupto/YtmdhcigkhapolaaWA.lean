/-
  Contracts of the leaf functions of num.
-/
import Derived.Test.YtmdhcigkhapolaaRows
import Derived.Test.YtmdhcigkhapolaaBase
import Derived.WalkKit
import Derived.WalkSpells
import Derived.WalkLawsBesides
namespace Go.Proofs.Ytmdhcigkhapolaa
open Go.RowKit

theorem w64_in {n : Int} (h1 : -9223372036854775808 ≤ n) (h2 : n ≤ 9223372036854775807) : wrap64 n = n := by unfold wrap64; omega
theorem w64_hi {n : Int} (h1 : 9223372036854775807 < n) (h2 : n ≤ 27670116110564327423) : wrap64 n = n - 18446744073709551616 := by unfold wrap64; omega
theorem w64_lo {n : Int} (h1 : n < -9223372036854775808) (h2 : -27670116110564327424 ≤ n) : wrap64 n = n + 18446744073709551616 := by unfold wrap64; omega

set_option maxHeartbeats 400000 in
theorem add_any (a b : Int) (ha : I64 a) (hb : I64 b) (w : World) :
    Calls Try.prog 15 #[.int .i64 a, .int .i64 b] w fun e w' => e = .returned (.tuple #[.int .i64 (nv (a + b)), .int .i64 (ne (a + b))]) ∧ w = w' := by
  obtain ⟨ha1, ha2⟩ := ha
  obtain ⟨hb1, hb2⟩ := hb
  by_cases hr : -9223372036854775808 ≤ a + b ∧ a + b ≤ 9223372036854775807
  · obtain ⟨hr1, hr2⟩ := hr
    by_cases hp : 0 < b
    · have t1 : decide (a < a + b) = true := by simp; omega
      go_enter Try.func15, Try.ntmps15
      go_wp2
      go_ret2
      exact ⟨ret2 (nv_in hr1 hr2).symm (ne_in hr1 hr2).symm, rfl⟩
    · have t1 : decide (a < a + b) = false := by simp; omega
      have hp' : decide (0 < b) = false := by simp; omega
      go_enter Try.func15, Try.ntmps15
      go_wp2
      go_ret2
      exact ⟨ret2 (nv_in hr1 hr2).symm (ne_in hr1 hr2).symm, rfl⟩
  · by_cases hp : 0 < b
    · have t1 : decide (a < wrap64 (a + b)) = false := by rw [w64_hi (by omega) (by omega)]; simp; omega
      have hp' : decide (0 < b) = true := by simp; omega
      go_enter Try.func15, Try.ntmps15
      go_wp2
      go_ret2
      exact ⟨ret2 (nv_hi (by omega)).symm (ne_hi (by omega)).symm, rfl⟩
    · have t1 : decide (a < wrap64 (a + b)) = true := by rw [w64_lo (by omega) (by omega)]; simp; omega
      have hp' : decide (0 < b) = false := by simp; omega
      go_enter Try.func15, Try.ntmps15
      go_wp2
      go_ret2
      exact ⟨ret2 (nv_lo (by omega)).symm (ne_lo (by omega)).symm, rfl⟩

end Go.Proofs.Ytmdhcigkhapolaa
