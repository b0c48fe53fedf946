/-
  Contracts: the document's own numbers of 128 bits.
-/
import Derived.Test.YtdbkjcnanffibaaGreatWC
import Derived.Deep.RegionWith
namespace Go.Proofs.YtdbkjcnanffibaaGreat
open Go.RowKit

/-- The two words of a number of 128 bits. -/
def hi (n : Int) : Int := n / 18446744073709551616
def lo (n : Int) : Int := n % 18446744073709551616
/-- Within 128 bits. -/
def I128 (n : Int) : Prop := -9223372036854775808 ≤ hi n ∧ hi n ≤ 9223372036854775807

theorem lo_bd (n : Int) : 0 ≤ lo n ∧ lo n ≤ 18446744073709551615 := by unfold lo; omega
theorem hilo (n : Int) : hi n * 18446744073709551616 + lo n = n := by unfold hi lo; omega
theorem hi_of {n h l : Int} (e : n = h * 18446744073709551616 + l) (h0 : 0 ≤ l) (h1 : l ≤ 18446744073709551615) : hi n = h := by unfold hi; omega
theorem lo_of {n h l : Int} (e : n = h * 18446744073709551616 + l) (h0 : 0 ≤ l) (h1 : l ≤ 18446744073709551615) : lo n = l := by unfold lo; omega

theorem u64_hi {n : Int} (h1 : 18446744073709551616 ≤ n) (h2 : n < 36893488147419103232) : IntKind.u64.wrap n = n - 18446744073709551616 := by rw [IntKind.wrap_u64]; omega

theorem plus_w (a b : Int) (hc : 18446744073709551616 ≤ lo a + lo b) : IntKind.u64.wrap (lo a + lo b) = lo (a + b) := by
  have := lo_bd a; have := lo_bd b; have := hilo a; have := hilo b
  rw [lo_of (n := a + b) (h := hi a + hi b + 1) (l := lo a + lo b - 18446744073709551616) (by omega) (by omega) (by omega)]
  exact u64_hi hc (by omega)
theorem plus_h (a b : Int) (hr : I128 (a + b)) (hc : 18446744073709551616 ≤ lo a + lo b) : wrap64 (wrap64 (hi a + hi b) + 1) = hi (a + b) := by
  have := lo_bd a; have := lo_bd b; have := hilo a; have := hilo b
  have e := hi_of (n := a + b) (h := hi a + hi b + 1) (l := lo a + lo b - 18446744073709551616) (by omega) (by omega) (by omega)
  unfold I128 at hr
  rw [e] at hr ⊢
  unfold wrap64; omega
theorem plus_h0 (a b : Int) (hc : lo a + lo b < 18446744073709551616) : hi (a + b) = hi a + hi b ∧ lo (a + b) = lo a + lo b := by
  have := lo_bd a; have := lo_bd b; have := hilo a; have := hilo b
  exact ⟨hi_of (l := lo a + lo b) (by omega) (by omega) (by omega), lo_of (h := hi a + hi b) (by omega) (by omega) (by omega)⟩

set_option maxHeartbeats 400000 in
theorem plus_any (a b : Int) (hr : I128 (a + b)) (w : World) :
    Calls Tryz.prog 68 #[.agg #[.int .i64 (hi a), .int .u64 (lo a)], .agg #[.int .i64 (hi b), .int .u64 (lo b)]] w fun e w' =>
      e = .returned (.agg #[.int .i64 (hi (a + b)), .int .u64 (lo (a + b))]) ∧ Below w.heap.size w w' := by
  obtain ⟨la, la'⟩ := lo_bd a
  obtain ⟨lb, lb'⟩ := lo_bd b
  by_cases hc : lo a + lo b < 18446744073709551616
  · obtain ⟨e1, e2⟩ := plus_h0 a b hc
    have hr' := hr
    obtain ⟨r1, r2⟩ := hr'
    rw [e1] at r1 r2
    have E1 := hid e1
    have E2 := hid e2
    have t : decide (lo a + lo b < lo a) = false := by simp; omega
    clear e1 e2
    go_enter Tryz.func68, Tryz.ntmps68
    go_wp2
    rw [← E1.out, ← E2.out]
    exact bodyPost_ret (v := .agg #[.int .i64 (hi (a + b)), .int .u64 (lo (a + b))]) (by simp [results, Tryz.results68, go_sem]) rfl ⟨rfl, (by repeat (first | exact Below.refl _ _ | assumption | refine Below.alloc ?_ (by simp <;> omega) _ | refine Below.setCell ?_ (by simp <;> omega) _ | refine Below.drew ?_ | refine below_drewN ?_ _))⟩
  · have hc' : 18446744073709551616 ≤ lo a + lo b := by omega
    have E1 := hid (plus_h a b hr hc')
    have E2 := hid (plus_w a b hc')
    have t : decide (IntKind.u64.wrap (lo a + lo b) < lo a) = true := by rw [u64_hi hc' (by omega)]; simp; omega
    clear hc
    go_enter Tryz.func68, Tryz.ntmps68
    go_wp2
    rw [E1.out, E2.out]
    exact bodyPost_ret (v := .agg #[.int .i64 (hi (a + b)), .int .u64 (lo (a + b))]) (by simp [results, Tryz.results68, go_sem]) rfl ⟨rfl, (by repeat (first | exact Below.refl _ _ | assumption | refine Below.alloc ?_ (by simp <;> omega) _ | refine Below.setCell ?_ (by simp <;> omega) _ | refine Below.drew ?_ | refine below_drewN ?_ _))⟩

theorem of_neg {a : Int} (ha : I64 a) (hn : a < 0) : hi a = -1 ∧ lo a = IntKind.u64.wrap a := by
  unfold I64 at ha; rw [IntKind.wrap_u64]; unfold hi lo; omega
theorem of_pos {a : Int} (ha : I64 a) (hn : 0 ≤ a) : hi a = 0 ∧ lo a = a := by
  unfold I64 at ha; unfold hi lo; omega

theorem less_hi {a b : Int} (h : hi a < hi b) : a < b := by
  have := lo_bd a; have := lo_bd b; have := hilo a; have := hilo b; omega
theorem less_eq {a b : Int} (h : hi a = hi b) : (a < b) ↔ (lo a < lo b) := by
  have := lo_bd a; have := lo_bd b; have := hilo a; have := hilo b; omega

set_option maxHeartbeats 400000 in
theorem less_any (a b : Int) (w : World) :
    Calls Tryz.prog 46 #[.agg #[.int .i64 (hi a), .int .u64 (lo a)], .agg #[.int .i64 (hi b), .int .u64 (lo b)]] w fun e w' =>
      e = .returned (.bool (decide (a < b))) ∧ Below w.heap.size w w' := by
  by_cases h1 : hi a < hi b
  · have t1 : decide (hi a < hi b) = true := by simp; omega
    have E := hid (decide_eq_true (less_hi h1))
    go_enter Tryz.func46, Tryz.ntmps46
    go_wp2
    go_ret
    exact ⟨retb E.out.symm, (by repeat (first | exact Below.refl _ _ | assumption | refine Below.alloc ?_ (by simp <;> omega) _ | refine Below.setCell ?_ (by simp <;> omega) _ | refine Below.drew ?_ | refine below_drewN ?_ _))⟩
  · have t1 : decide (hi a < hi b) = false := by simp; omega
    by_cases h2 : hi a = hi b
    · have E := hid (less_eq h2)
      have t2 : (hi a == hi b) = true := by simp [h2]
      clear h2 h1
      go_enter Tryz.func46, Tryz.ntmps46
      go_wp2
      go_ret
      exact ⟨retb (by simp [E.out]), (by repeat (first | exact Below.refl _ _ | assumption | refine Below.alloc ?_ (by simp <;> omega) _ | refine Below.setCell ?_ (by simp <;> omega) _ | refine Below.drew ?_ | refine below_drewN ?_ _))⟩
    · have E := hid (less_hi (a := b) (b := a) (by omega))
      have t2 : (hi a == hi b) = false := by simp [h2]
      clear h2
      go_enter Tryz.func46, Tryz.ntmps46
      go_wp2
      go_ret
      exact ⟨retb (by have := E.out; simp; omega), (by repeat (first | exact Below.refl _ _ | assumption | refine Below.alloc ?_ (by simp <;> omega) _ | refine Below.setCell ?_ (by simp <;> omega) _ | refine Below.drew ?_ | refine below_drewN ?_ _))⟩

end Go.Proofs.YtdbkjcnanffibaaGreat
