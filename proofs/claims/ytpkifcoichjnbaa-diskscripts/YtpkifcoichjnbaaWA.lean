/-
  Contracts of the leaf functions of num.
-/
import Derived.Test.YtpkifcoichjnbaaRows
import Derived.Test.YtpkifcoichjnbaaBase
import Derived.WalkKit
import Derived.WalkSpells
import Derived.WalkLawsBesides
namespace Go.Proofs.Ytpkifcoichjnbaa
open Go.RowKit

theorem w64_in {n : Int} (h1 : -9223372036854775808 ≤ n) (h2 : n ≤ 9223372036854775807) : wrap64 n = n := by unfold wrap64; omega
theorem w64_hi {n : Int} (h1 : 9223372036854775807 < n) (h2 : n ≤ 27670116110564327423) : wrap64 n = n - 18446744073709551616 := by unfold wrap64; omega
theorem w64_lo {n : Int} (h1 : n < -9223372036854775808) (h2 : -27670116110564327424 ≤ n) : wrap64 n = n + 18446744073709551616 := by unfold wrap64; omega

end Go.Proofs.Ytpkifcoichjnbaa
