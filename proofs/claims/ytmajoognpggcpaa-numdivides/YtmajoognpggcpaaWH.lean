/-
  Contracts: the document's sums, differences, products, comparisons.
-/
import Derived.Test.YtmajoognpggcpaaWF
namespace Go.Proofs.Ytmajoognpggcpaa
open Go.RowKit

theorem I128_small {n : Int} (h1 : -36893488147419103232 ≤ n) (h2 : n ≤ 36893488147419103232) : I128 n := by unfold I128 hi; omega

set_option maxHeartbeats 1000000 in
theorem radd_any (a b : Int) (ha : I64 a) (hb : I64 b) (w : World) :
    Calls Try.prog 19 #[.int .i64 a, .int .i64 b] w fun e w' => e = .returned (.tuple #[.int .i64 (nv (a + b)), .int .i64 (ne (a + b))]) ∧ Below w.heap.size w w' := by
  have hr : I128 (a + b) := by unfold I64 at ha hb; exact I128_small (by omega) (by omega)
  go_enter Try.func19, Try.ntmps19
  go_wp2_with fail
  refine (of_any a ha _).mono ?_
  rintro e w1 ⟨rfl, h1⟩
  go_wp2_with fail
  refine (of_any b hb _).mono ?_
  rintro e w2 ⟨rfl, h2⟩
  go_wp2_with fail
  refine (plus_any a b hr _).mono ?_
  rintro e w3 ⟨rfl, h3⟩
  go_wp2_with fail
  refine (rnarrow_any (a + b) _).mono ?_
  rintro e w4 ⟨rfl, h4⟩
  have q2 := h1.trans (h2.mono h1.size)
  have q3 := q2.trans (h3.mono q2.size)
  have q4 := q3.trans (h4.mono q3.size)
  go_wp2
  go_ret2
  exact ⟨rfl, q4⟩

set_option maxHeartbeats 1000000 in
theorem rsub_any (a b : Int) (ha : I64 a) (hb : I64 b) (w : World) :
    Calls Try.prog 20 #[.int .i64 a, .int .i64 b] w fun e w' => e = .returned (.tuple #[.int .i64 (nv (a - b)), .int .i64 (ne (a - b))]) ∧ Below w.heap.size w w' := by
  have hr : I128 (a - b) := by unfold I64 at ha hb; exact I128_small (by omega) (by omega)
  have hr1 : I128 b := by unfold I64 at ha hb; exact I128_small (by omega) (by omega)
  have hr2 : I128 (-b) := by unfold I64 at ha hb; exact I128_small (by omega) (by omega)
  go_enter Try.func20, Try.ntmps20
  go_wp2_with fail
  refine (of_any a ha _).mono ?_
  rintro e w1 ⟨rfl, h1⟩
  go_wp2_with fail
  refine (of_any b hb _).mono ?_
  rintro e w2 ⟨rfl, h2⟩
  go_wp2_with fail
  refine (minus_any a b hr1 hr hr2 _).mono ?_
  rintro e w3 ⟨rfl, h3⟩
  go_wp2_with fail
  refine (rnarrow_any (a - b) _).mono ?_
  rintro e w4 ⟨rfl, h4⟩
  have q2 := h1.trans (h2.mono h1.size)
  have q3 := q2.trans (h3.mono q2.size)
  have q4 := q3.trans (h4.mono q3.size)
  go_wp2
  go_ret2
  exact ⟨rfl, q4⟩

set_option maxHeartbeats 1000000 in
theorem rmul_any (a b : Int) (ha : I64 a) (hb : I64 b) (w : World) :
    Calls Try.prog 21 #[.int .i64 a, .int .i64 b] w fun e w' => e = .returned (.tuple #[.int .i64 (nv (a * b)), .int .i64 (ne (a * b))]) ∧ Below w.heap.size w w' := by
  go_enter Try.func21, Try.ntmps21
  go_wp2_with fail
  refine (times_any a b ha hb _).mono ?_
  rintro e w1 ⟨rfl, h1⟩
  go_wp2_with fail
  refine (rnarrow_any (a * b) _).mono ?_
  rintro e w2 ⟨rfl, h2⟩
  have q2 := h1.trans (h2.mono h1.size)
  go_wp2
  go_ret2
  exact ⟨rfl, q2⟩

/-- Cmp's two answers. -/
def cmpv (a b c d : Int) : Int := if b < 1 ∨ d < 1 then 0 else ord (a * d) (c * b)
def cmpe (b d : Int) : Int := if b < 1 ∨ d < 1 then 1 else 0

set_option maxHeartbeats 1000000 in
theorem rcmp_any (a b c d : Int) (ha : I64 a) (hb : I64 b) (hc : I64 c) (hd : I64 d) (w : World) :
    Calls Try.prog 27 #[.int .i64 a, .int .i64 b, .int .i64 c, .int .i64 d] w fun e w' => e = .returned (.tuple #[.int .i64 (cmpv a b c d), .int .i64 (cmpe b d)]) ∧ Below w.heap.size w w' := by
  by_cases h1 : b < 1
  · have t : decide (b < 1) = true := by simp; omega
    have E1 : Hid (cmpv a b c d = 0) := by unfold cmpv; rw [if_pos (.inl h1)]; rfl
    have E2 : Hid (cmpe b d = 1) := by unfold cmpe; rw [if_pos (.inl h1)]; rfl
    go_enter Try.func27, Try.ntmps27
    go_wp2
    go_ret2
    exact ⟨ret2 E1.out.symm E2.out.symm, Below.refl _ _⟩
  · have t : decide (b < 1) = false := by simp; omega
    by_cases h2 : d < 1
    · have t2 : decide (d < 1) = true := by simp; omega
      have E1 : Hid (cmpv a b c d = 0) := by unfold cmpv; rw [if_pos (.inr h2)]; rfl
      have E2 : Hid (cmpe b d = 1) := by unfold cmpe; rw [if_pos (.inr h2)]; rfl
      go_enter Try.func27, Try.ntmps27
      go_wp2
      go_ret2
      exact ⟨ret2 E1.out.symm E2.out.symm, Below.refl _ _⟩
    · have t2 : decide (d < 1) = false := by simp; omega
      have E1 : Hid (cmpv a b c d = ord (a * d) (c * b)) := by unfold cmpv; rw [if_neg (by omega)]; rfl
      have E2 : Hid (cmpe b d = 0) := by unfold cmpe; rw [if_neg (by omega)]; rfl
      go_enter Try.func27, Try.ntmps27
      go_wp2_with fail
      refine (times_any a d ha hd _).mono ?_
      rintro e w1 ⟨rfl, q1⟩
      go_wp2_with fail
      refine (times_any c b hc hb _).mono ?_
      rintro e w2 ⟨rfl, q2⟩
      go_wp2_with fail
      refine (order_any (a * d) (c * b) _).mono ?_
      rintro e w3 ⟨rfl, q3⟩
      have r2 := q1.trans (q2.mono q1.size)
      have r3 := r2.trans (q3.mono r2.size)
      go_wp2
      go_ret2
      exact ⟨ret2 E1.out.symm E2.out.symm, r3⟩

end Go.Proofs.Ytmajoognpggcpaa
