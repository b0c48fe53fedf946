/-
  Contracts: the program's own numbers of 128 bits.
-/
import Derived.Test.YtdbkjcnanffibaaWE
namespace Go.Proofs.Ytdbkjcnanffibaa
open Go.RowKit

set_option maxHeartbeats 1000000 in
theorem isnan_any (x : Int) (w : World) :
    Calls Try.prog 98 #[.int .u64 x] w fun e w' => e = .returned (.bool false) ∧ w = w' := by
  go_enter Try.func98, Try.ntmps98
  have t : (x != x) = false := by simp
  go_wp2
  go_ret
  simp

set_option maxHeartbeats 1000000 in
theorem ucmp_any (x y : Int) (w : World) :
    Calls Try.prog 97 #[.int .u64 x, .int .u64 y] w fun e w' => e = .returned (.int .i64 (ord x y)) ∧ w = w' := by
  by_cases h1 : x < y
  · have t1 : decide (x < y) = true := by simp; omega
    have E := hid (show ord x y = -1 by unfold ord; rw [if_pos h1])
    go_enter Try.func97, Try.ntmps97
    go_wp2_with (go_at_call 98; refine (isnan_any _ _).mono ?_; rintro e w1 ⟨rfl, rfl⟩)
    go_ret
    exact ⟨ret1 E.out.symm, rfl⟩
  · by_cases h2 : y < x
    · have t1 : decide (x < y) = false := by simp; omega
      have t2 : decide (y < x) = true := by simp; omega
      have E := hid (show ord x y = 1 by unfold ord; rw [if_neg h1, if_pos h2])
      go_enter Try.func97, Try.ntmps97
      go_wp2_with (go_at_call 98; refine (isnan_any _ _).mono ?_; rintro e w1 ⟨rfl, rfl⟩)
      go_ret
      exact ⟨ret1 E.out.symm, rfl⟩
    · have t1 : decide (x < y) = false := by simp; omega
      have t2 : decide (y < x) = false := by simp; omega
      have E := hid (show ord x y = 0 by unfold ord; rw [if_neg h1, if_neg h2])
      go_enter Try.func97, Try.ntmps97
      go_wp2_with (go_at_call 98; refine (isnan_any _ _).mono ?_; rintro e w1 ⟨rfl, rfl⟩)
      go_ret
      exact ⟨ret1 E.out.symm, rfl⟩

set_option maxHeartbeats 1000000 in
theorem wcmp_any (a b : Int) (w : World) :
    Calls Try.prog 96 #[.agg #[.int .u64 (hi a), .int .u64 (lo a)], .agg #[.int .u64 (hi b), .int .u64 (lo b)]] w fun e w' =>
      e = .returned (.int .i64 (ord a b)) ∧ Below w.heap.size w w' := by
  by_cases h2 : hi a = hi b
  · have t2 : (hi a != hi b) = false := by simp [h2]
    have E := hid (show ord (lo a) (lo b) = ord a b by
      have := lo_bd a; have := lo_bd b; have := hilo a; have := hilo b
      unfold ord; repeat' split <;> omega)
    clear h2
    go_enter Try.func96, Try.ntmps96
    go_wp2_with (go_at_call 97; refine (ucmp_any _ _ _).mono ?_; rintro e w1 ⟨rfl, rfl⟩)
    go_ret
    exact ⟨ret1 E.out, (by repeat (first | exact Below.refl _ _ | assumption | refine Below.alloc ?_ (by simp <;> omega) _ | refine Below.setCell ?_ (by simp <;> omega) _ | refine Below.drew ?_ | refine below_drewN ?_ _))⟩
  · have t2 : (hi a != hi b) = true := by simp [h2]
    have E := hid (show ord (hi a) (hi b) = ord a b by
      have := lo_bd a; have := lo_bd b; have := hilo a; have := hilo b
      unfold ord; repeat' split <;> omega)
    clear h2
    go_enter Try.func96, Try.ntmps96
    go_wp2_with (go_at_call 97; refine (ucmp_any _ _ _).mono ?_; rintro e w1 ⟨rfl, rfl⟩)
    go_ret
    exact ⟨ret1 E.out, (by repeat (first | exact Below.refl _ _ | assumption | refine Below.alloc ?_ (by simp <;> omega) _ | refine Below.setCell ?_ (by simp <;> omega) _ | refine Below.drew ?_ | refine below_drewN ?_ _))⟩

theorem mul_sign {a b : Int} (h : (decide (a < 0) == decide (b < 0)) = false) (ha : a ≠ 0) (hb : b ≠ 0) : a * b < 0 := by
  by_cases ha' : a < 0
  · by_cases hb' : b < 0
    · simp [ha', hb'] at h
    · exact Int.mul_neg_of_neg_of_pos ha' (by omega)
  · by_cases hb' : b < 0
    · exact Int.mul_neg_of_pos_of_neg (by omega) hb'
    · simp [ha', hb'] at h
theorem mul_sign0 {a b : Int} (h : (decide (a < 0) == decide (b < 0)) = true) : ¬ a * b < 0 := by
  by_cases ha' : a < 0
  · by_cases hb' : b < 0
    · have := Int.mul_pos_of_neg_of_neg ha' hb'; omega
    · simp [ha', hb'] at h
  · by_cases hb' : b < 0
    · simp [ha', hb'] at h
    · have := Int.mul_nonneg (a := a) (b := b) (by omega) (by omega); omega
theorem mul_hl (a b : Int) : hi ((a * b).natAbs : Int) = (a.natAbs : Int) * (b.natAbs : Int) / 18446744073709551616 ∧ lo ((a * b).natAbs : Int) = (a.natAbs : Int) * (b.natAbs : Int) % 18446744073709551616 := by
  rw [Int.natAbs_mul, Int.natCast_mul]; exact ⟨rfl, rfl⟩

set_option maxHeartbeats 1000000 in
theorem multiply_any (a b : Int) (ha : I64 a) (hb : I64 b) (w : World) :
    Calls Try.prog 91 #[.int .i64 a, .int .i64 b] w fun e w' =>
      e = .returned (.agg #[.bool (decide (a * b < 0)), .int .u64 (hi ((a * b).natAbs : Int)), .int .u64 (lo ((a * b).natAbs : Int))]) ∧ Below w.heap.size w w' := by
  have ba := natAbs_le ha
  have bb := natAbs_le hb
  have E1 := hid (mul_hl a b).1
  have E2 := hid (mul_hl a b).2
  cases t : (decide (a < 0) == decide (b < 0))
  · by_cases za : a = 0
    · have na : (a != 0) = false := by simp [za]
      have E3 : Hid (decide (a * b < 0) = false) := by simp [Hid, za]
      clear za
      go_enter Try.func91, Try.ntmps91
      go_wp2_with fail
      refine (size_any a ha _).mono ?_
      rintro e w1 ⟨rfl, rfl⟩
      go_wp2_with fail
      refine (size_any b hb _).mono ?_
      rintro e w1 ⟨rfl, rfl⟩
      go_wp2_with fail
      refine (mul64_any a.natAbs b.natAbs (by omega) (by omega) _).mono ?_
      rintro e w1 ⟨rfl, rfl⟩
      go_wp2
      refine bodyPost_ret (v := .agg #[.bool (decide (a * b < 0)), .int .u64 (hi ((a * b).natAbs : Int)), .int .u64 (lo ((a * b).natAbs : Int))]) ?_ rfl ⟨rfl, (by repeat (first | exact Below.refl _ _ | assumption | refine Below.alloc ?_ (by simp <;> omega) _ | refine Below.setCell ?_ (by simp <;> omega) _ | refine Below.drew ?_ | refine below_drewN ?_ _))⟩
      rw [E1.out, E2.out, E3.out]
      simp [results, Try.results91, go_sem]
    · have na : (a != 0) = true := by simp [za]
      by_cases zb : b = 0
      · have nb : (b != 0) = false := by simp [zb]
        have E3 : Hid (decide (a * b < 0) = false) := by simp [Hid, zb]
        clear za zb
        go_enter Try.func91, Try.ntmps91
        go_wp2_with fail
        refine (size_any a ha _).mono ?_
        rintro e w1 ⟨rfl, rfl⟩
        go_wp2_with fail
        refine (size_any b hb _).mono ?_
        rintro e w1 ⟨rfl, rfl⟩
        go_wp2_with fail
        refine (mul64_any a.natAbs b.natAbs (by omega) (by omega) _).mono ?_
        rintro e w1 ⟨rfl, rfl⟩
        go_wp2
        refine bodyPost_ret (v := .agg #[.bool (decide (a * b < 0)), .int .u64 (hi ((a * b).natAbs : Int)), .int .u64 (lo ((a * b).natAbs : Int))]) ?_ rfl ⟨rfl, (by repeat (first | exact Below.refl _ _ | assumption | refine Below.alloc ?_ (by simp <;> omega) _ | refine Below.setCell ?_ (by simp <;> omega) _ | refine Below.drew ?_ | refine below_drewN ?_ _))⟩
        rw [E1.out, E2.out, E3.out]
        simp [results, Try.results91, go_sem]
      · have nb : (b != 0) = true := by simp [zb]
        have E3 : Hid (decide (a * b < 0) = true) := decide_eq_true (mul_sign t za zb)
        clear za zb
        go_enter Try.func91, Try.ntmps91
        go_wp2_with fail
        refine (size_any a ha _).mono ?_
        rintro e w1 ⟨rfl, rfl⟩
        go_wp2_with fail
        refine (size_any b hb _).mono ?_
        rintro e w1 ⟨rfl, rfl⟩
        go_wp2_with fail
        refine (mul64_any a.natAbs b.natAbs (by omega) (by omega) _).mono ?_
        rintro e w1 ⟨rfl, rfl⟩
        go_wp2
        refine bodyPost_ret (v := .agg #[.bool (decide (a * b < 0)), .int .u64 (hi ((a * b).natAbs : Int)), .int .u64 (lo ((a * b).natAbs : Int))]) ?_ rfl ⟨rfl, (by repeat (first | exact Below.refl _ _ | assumption | refine Below.alloc ?_ (by simp <;> omega) _ | refine Below.setCell ?_ (by simp <;> omega) _ | refine Below.drew ?_ | refine below_drewN ?_ _))⟩
        rw [E1.out, E2.out, E3.out]
        simp [results, Try.results91, go_sem]
  · have E3 : Hid (decide (a * b < 0) = false) := decide_eq_false (mul_sign0 t)
    go_enter Try.func91, Try.ntmps91
    go_wp2_with fail
    refine (size_any a ha _).mono ?_
    rintro e w1 ⟨rfl, rfl⟩
    go_wp2_with fail
    refine (size_any b hb _).mono ?_
    rintro e w1 ⟨rfl, rfl⟩
    go_wp2_with fail
    refine (mul64_any a.natAbs b.natAbs (by omega) (by omega) _).mono ?_
    rintro e w1 ⟨rfl, rfl⟩
    go_wp2
    refine bodyPost_ret (v := .agg #[.bool (decide (a * b < 0)), .int .u64 (hi ((a * b).natAbs : Int)), .int .u64 (lo ((a * b).natAbs : Int))]) ?_ rfl ⟨rfl, (by repeat (first | exact Below.refl _ _ | assumption | refine Below.alloc ?_ (by simp <;> omega) _ | refine Below.setCell ?_ (by simp <;> omega) _ | refine Below.drew ?_ | refine below_drewN ?_ _))⟩
    rw [E1.out, E2.out, E3.out]
    simp [results, Try.results91, go_sem]

end Go.Proofs.Ytdbkjcnanffibaa
