/-
  Contracts: the document's own numbers of 128 bits.
-/
import Derived.Test.YtpkifcoichjnbaaWC
import Derived.Deep.RegionWith
namespace Go.Proofs.Ytpkifcoichjnbaa
open Go.RowKit

/-- The two words of a number of 128 bits. -/
def hi (n : Int) : Int := n / 18446744073709551616
def lo (n : Int) : Int := n % 18446744073709551616
/-- Within 128 bits. -/
def I128 (n : Int) : Prop := -9223372036854775808 ≤ hi n ∧ hi n ≤ 9223372036854775807

theorem lo_bd (n : Int) : 0 ≤ lo n ∧ lo n ≤ 18446744073709551615 := by unfold lo; omega
theorem hilo (n : Int) : hi n * 18446744073709551616 + lo n = n := by unfold hi lo; omega
theorem hi_of {n h l : Int} (e : n = h * 18446744073709551616 + l) (h0 : 0 ≤ l) (h1 : l ≤ 18446744073709551615) : hi n = h := by unfold hi; omega
theorem lo_of {n h l : Int} (e : n = h * 18446744073709551616 + l) (h0 : 0 ≤ l) (h1 : l ≤ 18446744073709551615) : lo n = l := by unfold lo; omega

theorem u64_hi {n : Int} (h1 : 18446744073709551616 ≤ n) (h2 : n < 36893488147419103232) : IntKind.u64.wrap n = n - 18446744073709551616 := by rw [IntKind.wrap_u64]; omega

theorem plus_w (a b : Int) (hc : 18446744073709551616 ≤ lo a + lo b) : IntKind.u64.wrap (lo a + lo b) = lo (a + b) := by
  have := lo_bd a; have := lo_bd b; have := hilo a; have := hilo b
  rw [lo_of (n := a + b) (h := hi a + hi b + 1) (l := lo a + lo b - 18446744073709551616) (by omega) (by omega) (by omega)]
  exact u64_hi hc (by omega)
theorem plus_h (a b : Int) (hr : I128 (a + b)) (hc : 18446744073709551616 ≤ lo a + lo b) : wrap64 (wrap64 (hi a + hi b) + 1) = hi (a + b) := by
  have := lo_bd a; have := lo_bd b; have := hilo a; have := hilo b
  have e := hi_of (n := a + b) (h := hi a + hi b + 1) (l := lo a + lo b - 18446744073709551616) (by omega) (by omega) (by omega)
  unfold I128 at hr
  rw [e] at hr ⊢
  unfold wrap64; omega
theorem plus_h0 (a b : Int) (hc : lo a + lo b < 18446744073709551616) : hi (a + b) = hi a + hi b ∧ lo (a + b) = lo a + lo b := by
  have := lo_bd a; have := lo_bd b; have := hilo a; have := hilo b
  exact ⟨hi_of (l := lo a + lo b) (by omega) (by omega) (by omega), lo_of (h := hi a + hi b) (by omega) (by omega) (by omega)⟩

theorem of_neg {a : Int} (ha : I64 a) (hn : a < 0) : hi a = -1 ∧ lo a = IntKind.u64.wrap a := by
  unfold I64 at ha; rw [IntKind.wrap_u64]; unfold hi lo; omega
theorem of_pos {a : Int} (ha : I64 a) (hn : 0 ≤ a) : hi a = 0 ∧ lo a = a := by
  unfold I64 at ha; unfold hi lo; omega

theorem less_hi {a b : Int} (h : hi a < hi b) : a < b := by
  have := lo_bd a; have := lo_bd b; have := hilo a; have := hilo b; omega
theorem less_eq {a b : Int} (h : hi a = hi b) : (a < b) ↔ (lo a < lo b) := by
  have := lo_bd a; have := lo_bd b; have := hilo a; have := hilo b; omega

end Go.Proofs.Ytpkifcoichjnbaa
