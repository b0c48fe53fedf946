/-
  Contracts: the program's own numbers of 128 bits.
  Contracts: products and narrowing of the document's numbers; the document's sums, differences, products, comparisons.
  Contracts: the document's sums, differences, products, comparisons.
  Contracts: the program's numbers with a sign; products and comparisons.
  Contracts of vec: fractions.
  Contracts of vec: the dominant share.
  Contracts of vec: Share, Less.
  Shares stand in one order: fc, lev.
-/
import Derived.Test.YtdbkjcnanffibaaGreatWE
import Derived.Test.YtdbkjcnanffibaaGreatVD
import Derived.Deep.RegionHeld3
import Derived.Deep.DeepCutAuto
import Derived.Deep.CutBlock
namespace Go.Proofs.YtdbkjcnanffibaaGreat
open Go.RowKit

set_option maxHeartbeats 1000000 in
theorem isnan_any (x : Int) (w : World) :
    Calls Tryz.prog 119 #[.int .u64 x] w fun e w' => e = .returned (.bool false) ∧ w = w' := by
  go_enter Tryz.func119, Tryz.ntmps119
  have t : (x != x) = false := by simp
  go_wp2
  go_ret
  simp

set_option maxHeartbeats 1000000 in
theorem ucmp_any (x y : Int) (w : World) :
    Calls Tryz.prog 118 #[.int .u64 x, .int .u64 y] w fun e w' => e = .returned (.int .i64 (ord x y)) ∧ w = w' := by
  by_cases h1 : x < y
  · have t1 : decide (x < y) = true := by simp; omega
    have E := hid (show ord x y = -1 by unfold ord; rw [if_pos h1])
    go_enter Tryz.func118, Tryz.ntmps118
    go_wp2_with (go_at_call 119; refine (isnan_any _ _).mono ?_; rintro e w1 ⟨rfl, rfl⟩)
    go_ret
    exact ⟨ret1 E.out.symm, rfl⟩
  · by_cases h2 : y < x
    · have t1 : decide (x < y) = false := by simp; omega
      have t2 : decide (y < x) = true := by simp; omega
      have E := hid (show ord x y = 1 by unfold ord; rw [if_neg h1, if_pos h2])
      go_enter Tryz.func118, Tryz.ntmps118
      go_wp2_with (go_at_call 119; refine (isnan_any _ _).mono ?_; rintro e w1 ⟨rfl, rfl⟩)
      go_ret
      exact ⟨ret1 E.out.symm, rfl⟩
    · have t1 : decide (x < y) = false := by simp; omega
      have t2 : decide (y < x) = false := by simp; omega
      have E := hid (show ord x y = 0 by unfold ord; rw [if_neg h1, if_neg h2])
      go_enter Tryz.func118, Tryz.ntmps118
      go_wp2_with (go_at_call 119; refine (isnan_any _ _).mono ?_; rintro e w1 ⟨rfl, rfl⟩)
      go_ret
      exact ⟨ret1 E.out.symm, rfl⟩

set_option maxHeartbeats 1000000 in
theorem wcmp_any (a b : Int) (w : World) :
    Calls Tryz.prog 116 #[.agg #[.int .u64 (hi a), .int .u64 (lo a)], .agg #[.int .u64 (hi b), .int .u64 (lo b)]] w fun e w' =>
      e = .returned (.int .i64 (ord a b)) ∧ Below w.heap.size w w' := by
  by_cases h2 : hi a = hi b
  · have t2 : (hi a != hi b) = false := by simp [h2]
    have E := hid (show ord (lo a) (lo b) = ord a b by
      have := lo_bd a; have := lo_bd b; have := hilo a; have := hilo b
      unfold ord; repeat' split <;> omega)
    clear h2
    go_enter Tryz.func116, Tryz.ntmps116
    go_wp2_with (go_at_call 118; refine (ucmp_any _ _ _).mono ?_; rintro e w1 ⟨rfl, rfl⟩)
    go_ret
    exact ⟨ret1 E.out, (by repeat (first | exact Below.refl _ _ | assumption | refine Below.alloc ?_ (by simp <;> omega) _ | refine Below.setCell ?_ (by simp <;> omega) _ | refine Below.drew ?_ | refine below_drewN ?_ _))⟩
  · have t2 : (hi a != hi b) = true := by simp [h2]
    have E := hid (show ord (hi a) (hi b) = ord a b by
      have := lo_bd a; have := lo_bd b; have := hilo a; have := hilo b
      unfold ord; repeat' split <;> omega)
    clear h2
    go_enter Tryz.func116, Tryz.ntmps116
    go_wp2_with (go_at_call 118; refine (ucmp_any _ _ _).mono ?_; rintro e w1 ⟨rfl, rfl⟩)
    go_ret
    exact ⟨ret1 E.out, (by repeat (first | exact Below.refl _ _ | assumption | refine Below.alloc ?_ (by simp <;> omega) _ | refine Below.setCell ?_ (by simp <;> omega) _ | refine Below.drew ?_ | refine below_drewN ?_ _))⟩

theorem mul_sign {a b : Int} (h : (decide (a < 0) == decide (b < 0)) = false) (ha : a ≠ 0) (hb : b ≠ 0) : a * b < 0 := by
  by_cases ha' : a < 0
  · by_cases hb' : b < 0
    · simp [ha', hb'] at h
    · exact Int.mul_neg_of_neg_of_pos ha' (by omega)
  · by_cases hb' : b < 0
    · exact Int.mul_neg_of_pos_of_neg (by omega) hb'
    · simp [ha', hb'] at h
theorem mul_sign0 {a b : Int} (h : (decide (a < 0) == decide (b < 0)) = true) : ¬ a * b < 0 := by
  by_cases ha' : a < 0
  · by_cases hb' : b < 0
    · have := Int.mul_pos_of_neg_of_neg ha' hb'; omega
    · simp [ha', hb'] at h
  · by_cases hb' : b < 0
    · simp [ha', hb'] at h
    · have := Int.mul_nonneg (a := a) (b := b) (by omega) (by omega); omega
theorem mul_hl (a b : Int) : hi ((a * b).natAbs : Int) = (a.natAbs : Int) * (b.natAbs : Int) / 18446744073709551616 ∧ lo ((a * b).natAbs : Int) = (a.natAbs : Int) * (b.natAbs : Int) % 18446744073709551616 := by
  rw [Int.natAbs_mul, Int.natCast_mul]; exact ⟨rfl, rfl⟩

set_option maxHeartbeats 1000000 in
theorem multiply_any (a b : Int) (ha : I64 a) (hb : I64 b) (w : World) :
    Calls Tryz.prog 106 #[.int .i64 a, .int .i64 b] w fun e w' =>
      e = .returned (.agg #[.bool (decide (a * b < 0)), .int .u64 (hi ((a * b).natAbs : Int)), .int .u64 (lo ((a * b).natAbs : Int))]) ∧ Below w.heap.size w w' := by
  have ba := natAbs_le ha
  have bb := natAbs_le hb
  have E1 := hid (mul_hl a b).1
  have E2 := hid (mul_hl a b).2
  cases t : (decide (a < 0) == decide (b < 0))
  · by_cases za : a = 0
    · have na : (a != 0) = false := by simp [za]
      have E3 : Hid (decide (a * b < 0) = false) := by simp [Hid, za]
      clear za
      go_enter Tryz.func106, Tryz.ntmps106
      go_wp2_with fail
      refine (size_any a ha _).mono ?_
      rintro e w1 ⟨rfl, rfl⟩
      go_wp2_with fail
      refine (size_any b hb _).mono ?_
      rintro e w1 ⟨rfl, rfl⟩
      go_wp2_with fail
      refine (mul64_any a.natAbs b.natAbs (by omega) (by omega) _).mono ?_
      rintro e w1 ⟨rfl, rfl⟩
      go_wp2
      refine bodyPost_ret (v := .agg #[.bool (decide (a * b < 0)), .int .u64 (hi ((a * b).natAbs : Int)), .int .u64 (lo ((a * b).natAbs : Int))]) ?_ rfl ⟨rfl, (by repeat (first | exact Below.refl _ _ | assumption | refine Below.alloc ?_ (by simp <;> omega) _ | refine Below.setCell ?_ (by simp <;> omega) _ | refine Below.drew ?_ | refine below_drewN ?_ _))⟩
      rw [E1.out, E2.out, E3.out]
      simp [results, Tryz.results106, go_sem]
    · have na : (a != 0) = true := by simp [za]
      by_cases zb : b = 0
      · have nb : (b != 0) = false := by simp [zb]
        have E3 : Hid (decide (a * b < 0) = false) := by simp [Hid, zb]
        clear za zb
        go_enter Tryz.func106, Tryz.ntmps106
        go_wp2_with fail
        refine (size_any a ha _).mono ?_
        rintro e w1 ⟨rfl, rfl⟩
        go_wp2_with fail
        refine (size_any b hb _).mono ?_
        rintro e w1 ⟨rfl, rfl⟩
        go_wp2_with fail
        refine (mul64_any a.natAbs b.natAbs (by omega) (by omega) _).mono ?_
        rintro e w1 ⟨rfl, rfl⟩
        go_wp2
        refine bodyPost_ret (v := .agg #[.bool (decide (a * b < 0)), .int .u64 (hi ((a * b).natAbs : Int)), .int .u64 (lo ((a * b).natAbs : Int))]) ?_ rfl ⟨rfl, (by repeat (first | exact Below.refl _ _ | assumption | refine Below.alloc ?_ (by simp <;> omega) _ | refine Below.setCell ?_ (by simp <;> omega) _ | refine Below.drew ?_ | refine below_drewN ?_ _))⟩
        rw [E1.out, E2.out, E3.out]
        simp [results, Tryz.results106, go_sem]
      · have nb : (b != 0) = true := by simp [zb]
        have E3 : Hid (decide (a * b < 0) = true) := decide_eq_true (mul_sign t za zb)
        clear za zb
        go_enter Tryz.func106, Tryz.ntmps106
        go_wp2_with fail
        refine (size_any a ha _).mono ?_
        rintro e w1 ⟨rfl, rfl⟩
        go_wp2_with fail
        refine (size_any b hb _).mono ?_
        rintro e w1 ⟨rfl, rfl⟩
        go_wp2_with fail
        refine (mul64_any a.natAbs b.natAbs (by omega) (by omega) _).mono ?_
        rintro e w1 ⟨rfl, rfl⟩
        go_wp2
        refine bodyPost_ret (v := .agg #[.bool (decide (a * b < 0)), .int .u64 (hi ((a * b).natAbs : Int)), .int .u64 (lo ((a * b).natAbs : Int))]) ?_ rfl ⟨rfl, (by repeat (first | exact Below.refl _ _ | assumption | refine Below.alloc ?_ (by simp <;> omega) _ | refine Below.setCell ?_ (by simp <;> omega) _ | refine Below.drew ?_ | refine below_drewN ?_ _))⟩
        rw [E1.out, E2.out, E3.out]
        simp [results, Tryz.results106, go_sem]
  · have E3 : Hid (decide (a * b < 0) = false) := decide_eq_false (mul_sign0 t)
    go_enter Tryz.func106, Tryz.ntmps106
    go_wp2_with fail
    refine (size_any a ha _).mono ?_
    rintro e w1 ⟨rfl, rfl⟩
    go_wp2_with fail
    refine (size_any b hb _).mono ?_
    rintro e w1 ⟨rfl, rfl⟩
    go_wp2_with fail
    refine (mul64_any a.natAbs b.natAbs (by omega) (by omega) _).mono ?_
    rintro e w1 ⟨rfl, rfl⟩
    go_wp2
    refine bodyPost_ret (v := .agg #[.bool (decide (a * b < 0)), .int .u64 (hi ((a * b).natAbs : Int)), .int .u64 (lo ((a * b).natAbs : Int))]) ?_ rfl ⟨rfl, (by repeat (first | exact Below.refl _ _ | assumption | refine Below.alloc ?_ (by simp <;> omega) _ | refine Below.setCell ?_ (by simp <;> omega) _ | refine Below.drew ?_ | refine below_drewN ?_ _))⟩
    rw [E1.out, E2.out, E3.out]
    simp [results, Tryz.results106, go_sem]

end Go.Proofs.YtdbkjcnanffibaaGreat

namespace Go.Proofs.YtdbkjcnanffibaaGreat
open Go.RowKit

theorem prod_abs {a b : Int} (ha : I64 a) (hb : I64 b) : (a * b).natAbs ≤ 85070591730234615865843651857942052864 := by
  rw [Int.natAbs_mul]
  exact Nat.mul_le_mul (natAbs_le ha) (natAbs_le hb)
theorem I128_of {n : Int} (h : n.natAbs ≤ 85070591730234615865843651857942052864) : I128 n := by unfold I128 hi; omega
theorem I128_mul {a b : Int} (ha : I64 a) (hb : I64 b) : I128 (a * b) := I128_of (prod_abs ha hb)
theorem I128_mul_neg {a b : Int} (ha : I64 a) (hb : I64 b) : I128 (-(a * b)) := I128_of (by rw [Int.natAbs_neg]; exact prod_abs ha hb)

theorem abs_same {a b : Int} (h : (a < 0) = (b < 0)) : ((a.natAbs * b.natAbs : Nat) : Int) = a * b := by
  by_cases ha : a < 0
  · have hb : b < 0 := by rw [← h]; exact ha
    have e1 : (a.natAbs : Int) = -a := by omega
    have e2 : (b.natAbs : Int) = -b := by omega
    rw [Int.natCast_mul, e1, e2, Int.neg_mul_neg]
  · have hb : ¬ b < 0 := by rw [← h]; exact ha
    have e1 : (a.natAbs : Int) = a := by omega
    have e2 : (b.natAbs : Int) = b := by omega
    rw [Int.natCast_mul, e1, e2]
theorem abs_diff {a b : Int} (h : (a < 0) ≠ (b < 0)) : ((a.natAbs * b.natAbs : Nat) : Int) = -(a * b) := by
  by_cases ha : a < 0
  · have hb : ¬ b < 0 := fun hb => h (by simp [ha, hb])
    have e1 : (a.natAbs : Int) = -a := by omega
    have e2 : (b.natAbs : Int) = b := by omega
    rw [Int.natCast_mul, e1, e2, Int.neg_mul]
  · have hb : b < 0 := Classical.byContradiction fun hb => h (by simp [ha, hb])
    have e1 : (a.natAbs : Int) = a := by omega
    have e2 : (b.natAbs : Int) = -b := by omega
    rw [Int.natCast_mul, e1, e2, Int.mul_neg]
theorem half_hl (p : Nat) : ((p / 18446744073709551616 : Nat) : Int) = hi (p : Int) ∧ ((p % 18446744073709551616 : Nat) : Int) = lo (p : Int) := by
  unfold hi lo; omega

theorem half_hl_any (x y : Nat) (hx : x ≤ 9223372036854775808) (hy : y ≤ 9223372036854775808) (w : World) :
    Calls Tryz.prog 83 #[.int .u64 x, .int .u64 y] w fun e w' => e = .returned (.agg #[.int .i64 (hi ((x * y : Nat) : Int)), .int .u64 (lo ((x * y : Nat) : Int))]) ∧ Below w.heap.size w w' := by
  have h := half_any x y hx hy w
  rw [(half_hl (x * y)).1, (half_hl (x * y)).2] at h
  exact h

theorem minus0_any (b : Int) (hb : I128 b) (hn : I128 (-b)) (w : World) :
    Calls Tryz.prog 85 #[.agg #[.int .i64 0, .int .u64 0], .agg #[.int .i64 (hi b), .int .u64 (lo b)]] w fun e w' =>
      e = .returned (.agg #[.int .i64 (hi (-b)), .int .u64 (lo (-b))]) ∧ Below w.heap.size w w' := by
  have h := minus_any 0 b hb (by rw [Int.zero_sub]; exact hn) hn w
  rw [hl_zero.1, hl_zero.2, Int.zero_sub] at h
  exact h

set_option maxHeartbeats 1000000 in
theorem times_any (a b : Int) (ha : I64 a) (hb : I64 b) (w : World) :
    Calls Tryz.prog 67 #[.int .i64 a, .int .i64 b] w fun e w' =>
      e = .returned (.agg #[.int .i64 (hi (a * b)), .int .u64 (lo (a * b))]) ∧ Below w.heap.size w w' := by
  have ba := natAbs_le ha
  have bb := natAbs_le hb
  by_cases hs : (a < 0) = (b < 0)
  · have t : (decide (a < 0) == decide (b < 0)) = true := by simp [hs]
    have E := hid (abs_same hs)
    clear hs
    go_enter Tryz.func67, Tryz.ntmps67
    go_wp2_with fail
    refine (rsize_any a ha _).mono ?_
    rintro e w1 ⟨rfl, rfl⟩
    go_wp2_with fail
    refine (rsize_any b hb _).mono ?_
    rintro e w1 ⟨rfl, rfl⟩
    go_wp2_with fail
    refine (half_hl_any a.natAbs b.natAbs ba bb _).mono ?_
    rintro e w1 ⟨rfl, hq⟩
    have c0 := keepc hq (a := ⟨w.heap.size, 0, none⟩) (v := .int .i64 0) (by simp [go_sem])
    have c1 := keepc hq (a := ⟨w.heap.size, 1, none⟩) (v := .int .u64 0) (by simp [go_sem])
    have f0 := keepf hq (a := ⟨w.heap.size, 0, none⟩) (v := .int .i64 0) (by simp [go_sem]) (by simp [go_sem])
    have f1 := keepf hq (a := ⟨w.heap.size, 1, none⟩) (v := .int .u64 0) (by simp [go_sem]) (by simp [go_sem])
    have hB1 : Below w.heap.size w w1 := Below.trans (by repeat (first | exact Below.refl _ _ | assumption | refine Below.alloc ?_ (by simp <;> omega) _ | refine Below.setCell ?_ (by simp <;> omega) _ | refine Below.drew ?_ | refine below_drewN ?_ _)) (hq.mono (by simp <;> omega))
    have hlt := cell_lt c0
    simp only at hlt
    rw [E.out]
    go_wp2
    exact bodyPost_ret (v := .agg #[.int .i64 (hi (a * b)), .int .u64 (lo (a * b))]) (by simp [results, Tryz.results67, go_sem, c0, c1, hlt]) rfl ⟨rfl, ((hB1.setCell (by simp <;> omega) _).setCell (by simp <;> omega) _).alloc (by simp <;> omega) _⟩
  · have t : (decide (a < 0) == decide (b < 0)) = false := by simpa using hs
    have E := hid (abs_diff hs)
    clear hs
    go_enter Tryz.func67, Tryz.ntmps67
    go_wp2_with fail
    refine (rsize_any a ha _).mono ?_
    rintro e w1 ⟨rfl, rfl⟩
    go_wp2_with fail
    refine (rsize_any b hb _).mono ?_
    rintro e w1 ⟨rfl, rfl⟩
    go_wp2_with fail
    refine (half_hl_any a.natAbs b.natAbs ba bb _).mono ?_
    rintro e w1 ⟨rfl, hq⟩
    have c0 := keepc hq (a := ⟨w.heap.size, 0, none⟩) (v := .int .i64 0) (by simp [go_sem])
    have c1 := keepc hq (a := ⟨w.heap.size, 1, none⟩) (v := .int .u64 0) (by simp [go_sem])
    have f0 := keepf hq (a := ⟨w.heap.size, 0, none⟩) (v := .int .i64 0) (by simp [go_sem]) (by simp [go_sem])
    have f1 := keepf hq (a := ⟨w.heap.size, 1, none⟩) (v := .int .u64 0) (by simp [go_sem]) (by simp [go_sem])
    have hB1 : Below w.heap.size w w1 := Below.trans (by repeat (first | exact Below.refl _ _ | assumption | refine Below.alloc ?_ (by simp <;> omega) _ | refine Below.setCell ?_ (by simp <;> omega) _ | refine Below.drew ?_ | refine below_drewN ?_ _)) (hq.mono (by simp <;> omega))
    have hlt := cell_lt c0
    simp only at hlt
    rw [E.out]
    go_wp2_with fail
    refine (minus0_any (-(a * b)) (I128_mul_neg ha hb) (by rw [Int.neg_neg]; exact I128_mul ha hb) _).mono ?_
    rintro e w2 ⟨rfl, hq2⟩
    rw [Int.neg_neg]
    have d0 := keepc hq2 (a := ⟨w.heap.size, 0, none⟩) (v := .int .i64 0) (by simp [go_sem, c0, hlt])
    have d1 := keepc hq2 (a := ⟨w.heap.size, 1, none⟩) (v := .int .u64 0) (by simp [go_sem, c1, hlt])
    have g0 := keepf hq2 (a := ⟨w.heap.size, 0, none⟩) (v := .int .i64 0) (by simp [go_sem, c0, hlt]) (by simp [go_sem, f0, hlt])
    have g1 := keepf hq2 (a := ⟨w.heap.size, 1, none⟩) (v := .int .u64 0) (by simp [go_sem, c1, hlt]) (by simp [go_sem, f1, hlt])
    have hB2 : Below w.heap.size w w2 := Below.trans (hB1.alloc (by omega) _) (hq2.mono (by simp <;> omega))
    clear c0 c1 f0 f1
    go_wp2
    exact bodyPost_ret (v := .agg #[.int .i64 (hi (a * b)), .int .u64 (lo (a * b))]) (by simp [results, Tryz.results67, go_sem, d0, d1]) rfl ⟨rfl, (hB2.setCell (by simp <;> omega) _).setCell (by simp <;> omega) _⟩

theorem lo_wrap {n : Int} (h1 : -9223372036854775808 ≤ n) (h2 : n ≤ 9223372036854775807) : IntKind.i64.wrap (lo n) = n := by
  rw [IntKind.wrap_i64]; unfold lo; omega
theorem lo_wrap' {n : Int} (h1 : -9223372036854775808 ≤ n) (h2 : n ≤ 9223372036854775807) : wrap64 (lo n) = n := by
  unfold wrap64 lo; omega
theorem lo_wrap_I64 (n : Int) : I64 (IntKind.i64.wrap (lo n)) := by
  rw [IntKind.wrap_i64]; unfold I64 lo; omega
theorem lo_wrap_ne {n : Int} (h : ¬ (-9223372036854775808 ≤ n ∧ n ≤ 9223372036854775807)) : hi (IntKind.i64.wrap (lo n)) ≠ hi n := by
  rw [IntKind.wrap_i64]; unfold hi lo; omega

end Go.Proofs.YtdbkjcnanffibaaGreat

namespace Go.Proofs.YtdbkjcnanffibaaGreat
open Go.RowKit

theorem I128_small {n : Int} (h1 : -36893488147419103232 ≤ n) (h2 : n ≤ 36893488147419103232) : I128 n := by unfold I128 hi; omega

/-- Cmp's two answers. -/
def cmpv (a b c d : Int) : Int := if b < 1 ∨ d < 1 then 0 else ord (a * d) (c * b)
def cmpe (b d : Int) : Int := if b < 1 ∨ d < 1 then 1 else 0

end Go.Proofs.YtdbkjcnanffibaaGreat

namespace Go.Proofs.YtdbkjcnanffibaaGreat
open Go.RowKit

/-- A number by its sign and its size. -/
def sgn (s : Bool) (m : Int) : Int := if s then -m else m

theorem narrow_neg {m : Int} (h0 : hi m = 0) (h : lo m ≤ 9223372036854775808) : wrap64 (IntKind.u64.wrap (-lo m)) = nv (-m) ∧ ne (-m) = 0 := by
  have := lo_bd m; have := hilo m
  have e : m = lo m := by omega
  rw [nv_in (by omega) (by omega), ne_in (by omega) (by omega), IntKind.wrap_u64]
  unfold wrap64; omega
theorem narrow_big {m : Int} {s : Bool} (h0 : 0 ≤ m) (h : ¬ (hi m = 0 ∧ lo m ≤ if s then 9223372036854775808 else 9223372036854775807)) : nv (sgn s m) = 0 ∧ ne (sgn s m) = 2 := by
  have := lo_bd m; have := hilo m
  cases s
  · simp [sgn] at h ⊢
    exact ⟨nv_hi (by omega), ne_hi (by omega)⟩
  · simp [sgn] at h ⊢
    exact ⟨nv_lo (by omega), ne_lo (by omega)⟩
theorem narrow_pos {m : Int} (h0 : hi m = 0) (h : lo m ≤ 9223372036854775807) : nv m = lo m ∧ ne m = 0 := by
  have := lo_bd m; have := hilo m
  have e : m = lo m := by omega
  rw [nv_in (by omega) (by omega), ne_in (by omega) (by omega)]
  exact ⟨e, rfl⟩

theorem sgn_mul (a b : Int) : sgn (decide (a * b < 0)) ((a * b).natAbs : Int) = a * b := by
  generalize a * b = n
  unfold sgn
  by_cases h : n < 0
  · simp [h]; omega
  · simp [h]; omega

theorem ord_neg (m k : Int) : ord k m = ord (-m) (-k) := by unfold ord; repeat' split <;> omega

set_option maxHeartbeats 1000000 in
theorem scmp_any (s t : Bool) (m k : Int) (hm : s = true → 0 < m) (hk : t = true → 0 < k) (m0 : 0 ≤ m) (k0 : 0 ≤ k) (w : World) :
    Calls Tryz.prog 107 #[.agg #[.bool s, .int .u64 (hi m), .int .u64 (lo m)], .agg #[.bool t, .int .u64 (hi k), .int .u64 (lo k)]] w fun e w' => e = .returned (.int .i64 (ord (sgn s m) (sgn t k))) ∧ Below w.heap.size w w' := by
  cases s
  · cases t
    · clear hm hk
      go_enter Tryz.func107, Tryz.ntmps107
      go_wp2_with fail
      refine (wcmp_any m k _).mono ?_
      rintro e w1 ⟨rfl, h1⟩
      go_wp2
      go_ret
      exact ⟨rfl, Below.trans (by repeat (first | exact Below.refl _ _ | assumption | refine Below.alloc ?_ (by simp <;> omega) _ | refine Below.setCell ?_ (by simp <;> omega) _ | refine Below.drew ?_ | refine below_drewN ?_ _)) (h1.mono (by simp <;> omega))⟩
    · have E : Hid (ord (sgn false m) (sgn true k) = 1) := by
        have := hk rfl; simp only [sgn, Hid]; unfold ord; rw [if_neg, if_pos] <;> simp <;> omega
      clear hm hk
      go_enter Tryz.func107, Tryz.ntmps107
      go_wp2
      go_ret
      exact ⟨ret1 E.out.symm, (by repeat (first | exact Below.refl _ _ | assumption | refine Below.alloc ?_ (by simp <;> omega) _ | refine Below.setCell ?_ (by simp <;> omega) _ | refine Below.drew ?_ | refine below_drewN ?_ _))⟩
  · cases t
    · have E : Hid (ord (sgn true m) (sgn false k) = -1) := by
        have := hm rfl; simp only [sgn, Hid]; unfold ord; rw [if_pos] <;> simp <;> omega
      clear hm hk
      go_enter Tryz.func107, Tryz.ntmps107
      go_wp2
      go_ret
      exact ⟨ret1 E.out.symm, (by repeat (first | exact Below.refl _ _ | assumption | refine Below.alloc ?_ (by simp <;> omega) _ | refine Below.setCell ?_ (by simp <;> omega) _ | refine Below.drew ?_ | refine below_drewN ?_ _))⟩
    · have E : Hid (ord k m = ord (sgn true m) (sgn true k)) := ord_neg m k
      clear hm hk
      go_enter Tryz.func107, Tryz.ntmps107
      go_wp2_with fail
      refine (wcmp_any k m _).mono ?_
      rintro e w1 ⟨rfl, h1⟩
      go_wp2
      go_ret
      exact ⟨ret1 E.out, Below.trans (by repeat (first | exact Below.refl _ _ | assumption | refine Below.alloc ?_ (by simp <;> omega) _ | refine Below.setCell ?_ (by simp <;> omega) _ | refine Below.drew ?_ | refine below_drewN ?_ _)) (h1.mono (by simp <;> omega))⟩

theorem pos_of_neg {n : Int} (h : decide (n < 0) = true) : 0 < (n.natAbs : Int) := by simp at h; omega

set_option maxHeartbeats 1000000 in
theorem cmp_any (a b c d : Int) (ha : I64 a) (hb : I64 b) (hc : I64 c) (hd : I64 d) (w : World) :
    Calls Tryz.prog 92 #[.int .i64 a, .int .i64 b, .int .i64 c, .int .i64 d] w fun e w' => e = .returned (.tuple #[.int .i64 (cmpv a b c d), .int .i64 (cmpe b d)]) ∧ Below w.heap.size w w' := by
  by_cases h1 : b < 1
  · have t : decide (b < 1) = true := by simp; omega
    have E1 : Hid (cmpv a b c d = 0) := by unfold cmpv; rw [if_pos (.inl h1)]; rfl
    have E2 : Hid (cmpe b d = 1) := by unfold cmpe; rw [if_pos (.inl h1)]; rfl
    go_enter Tryz.func92, Tryz.ntmps92
    go_wp2
    go_ret2
    exact ⟨ret2 E1.out.symm E2.out.symm, Below.refl _ _⟩
  · have t : decide (b < 1) = false := by simp; omega
    by_cases h2 : d < 1
    · have t2 : decide (d < 1) = true := by simp; omega
      have E1 : Hid (cmpv a b c d = 0) := by unfold cmpv; rw [if_pos (.inr h2)]; rfl
      have E2 : Hid (cmpe b d = 1) := by unfold cmpe; rw [if_pos (.inr h2)]; rfl
      go_enter Tryz.func92, Tryz.ntmps92
      go_wp2
      go_ret2
      exact ⟨ret2 E1.out.symm E2.out.symm, Below.refl _ _⟩
    · have t2 : decide (d < 1) = false := by simp; omega
      have E1 : Hid (cmpv a b c d = ord (a * d) (c * b)) := by unfold cmpv; rw [if_neg (by omega)]; rfl
      have E2 : Hid (cmpe b d = 0) := by unfold cmpe; rw [if_neg (by omega)]; rfl
      have h := fun w' => scmp_any (decide (a * d < 0)) (decide (c * b < 0)) ((a * d).natAbs : Int) ((c * b).natAbs : Int) pos_of_neg pos_of_neg (by omega) (by omega) w'
      rw [sgn_mul, sgn_mul] at h
      have H := hid h
      clear h
      go_enter Tryz.func92, Tryz.ntmps92
      go_wp2_with fail
      refine (multiply_any a d ha hd _).mono ?_
      rintro e w1 ⟨rfl, q1⟩
      go_wp2_with fail
      refine (multiply_any c b hc hb _).mono ?_
      rintro e w2 ⟨rfl, q2⟩
      go_wp2_with fail
      refine (H.out _).mono ?_
      rintro e w3 ⟨rfl, q3⟩
      have r2 := q1.trans (q2.mono q1.size)
      have r3 := r2.trans (q3.mono r2.size)
      go_wp2
      go_ret2
      exact ⟨ret2 E1.out.symm E2.out.symm, r3⟩

end Go.Proofs.YtdbkjcnanffibaaGreat

namespace Go.Proofs.YtdbkjcnanffibaaGreat
open Go.RowKit Go.Shelf
set_option linter.unusedVariables false

set_option maxHeartbeats 1000000 in
theorem isnanI_any (x : Int) (w : World) :
    Calls Tryz.prog 105 #[.int .i64 x] w fun e w' => e = .returned (.bool false) ∧ w = w' := by
  go_enter Tryz.func105, Tryz.ntmps105
  have t : (x != x) = false := by simp
  go_wp2
  go_ret
  simp

set_option maxHeartbeats 1000000 in
theorem icmp_any (x y : Int) (w : World) :
    Calls Tryz.prog 91 #[.int .i64 x, .int .i64 y] w fun e w' => e = .returned (.int .i64 (ord x y)) ∧ w = w' := by
  by_cases h1 : x < y
  · have t1 : decide (x < y) = true := by simp; omega
    have E := hid (show ord x y = -1 by unfold ord; rw [if_pos h1])
    go_enter Tryz.func91, Tryz.ntmps91
    go_wp2_with (go_at_call 105; refine (isnanI_any _ _).mono ?_; rintro e w1 ⟨rfl, rfl⟩)
    go_ret
    exact ⟨ret1 E.out.symm, rfl⟩
  · by_cases h2 : y < x
    · have t1 : decide (x < y) = false := by simp; omega
      have t2 : decide (y < x) = true := by simp; omega
      have E := hid (show ord x y = 1 by unfold ord; rw [if_neg h1, if_pos h2])
      go_enter Tryz.func91, Tryz.ntmps91
      go_wp2_with (go_at_call 105; refine (isnanI_any _ _).mono ?_; rintro e w1 ⟨rfl, rfl⟩)
      go_ret
      exact ⟨ret1 E.out.symm, rfl⟩
    · have t1 : decide (x < y) = false := by simp; omega
      have t2 : decide (y < x) = false := by simp; omega
      have E := hid (show ord x y = 0 by unfold ord; rw [if_neg h1, if_neg h2])
      go_enter Tryz.func91, Tryz.ntmps91
      go_wp2_with (go_at_call 105; refine (isnanI_any _ _).mono ?_; rintro e w1 ⟨rfl, rfl⟩)
      go_ret
      exact ⟨ret1 E.out.symm, rfl⟩

/-- One resource's fraction. -/
def shr (p q : Int) : Int × Int := if 0 < q then (p, q) else if 0 < p then (1, 0) else (0, 1)
/-- How two fractions compare; 1/0 is above all others. -/
def fc (f g : Int × Int) : Int := if f.2 = 0 ∨ g.2 = 0 then ord g.2 f.2 else ord (f.1 * g.2) (g.1 * f.2)
/-- A fraction as the program keeps it. -/
def Fr (f : Int × Int) : Prop := I64 f.1 ∧ 0 ≤ f.2 ∧ f.2 ≤ 9223372036854775807

set_option maxHeartbeats 1000000 in
theorem share_any (p q : Int) (w : World) :
    Calls Tryz.prog 90 #[.int .i64 p, .int .i64 q] w fun e w' => e = .returned (.agg #[.int .i64 (shr p q).1, .int .i64 (shr p q).2]) ∧ Below w.heap.size w w' := by
  by_cases h1 : 0 < q
  · have t1 : decide (0 < q) = true := by simp; omega
    have E : Hid (shr p q = (p, q)) := by show _ = _; unfold shr; rw [if_pos h1]
    go_enter Tryz.func90, Tryz.ntmps90
    go_wp2
    rw [E.out]
    exact bodyPost_ret (v := .agg #[.int .i64 p, .int .i64 q]) (by simp [results, Tryz.results90, go_sem]) rfl ⟨rfl, (by repeat (first | exact Below.refl _ _ | assumption | refine Below.alloc ?_ (by simp <;> omega) _ | refine Below.setCell ?_ (by simp <;> omega) _ | refine Below.drew ?_ | refine below_drewN ?_ _))⟩
  · have t1 : decide (0 < q) = false := by simp; omega
    by_cases h2 : 0 < p
    · have t2 : decide (0 < p) = true := by simp; omega
      have E : Hid (shr p q = (1, 0)) := by show _ = _; unfold shr; rw [if_neg h1, if_pos h2]
      go_enter Tryz.func90, Tryz.ntmps90
      go_wp2
      rw [E.out]
      exact bodyPost_ret (v := .agg #[.int .i64 1, .int .i64 0]) (by simp [results, Tryz.results90, go_sem]) rfl ⟨rfl, (by repeat (first | exact Below.refl _ _ | assumption | refine Below.alloc ?_ (by simp <;> omega) _ | refine Below.setCell ?_ (by simp <;> omega) _ | refine Below.drew ?_ | refine below_drewN ?_ _))⟩
    · have t2 : decide (0 < p) = false := by simp; omega
      have E : Hid (shr p q = (0, 1)) := by show _ = _; unfold shr; rw [if_neg h1, if_neg h2]
      go_enter Tryz.func90, Tryz.ntmps90
      go_wp2
      rw [E.out]
      exact bodyPost_ret (v := .agg #[.int .i64 0, .int .i64 1]) (by simp [results, Tryz.results90, go_sem]) rfl ⟨rfl, (by repeat (first | exact Below.refl _ _ | assumption | refine Below.alloc ?_ (by simp <;> omega) _ | refine Below.setCell ?_ (by simp <;> omega) _ | refine Below.drew ?_ | refine below_drewN ?_ _))⟩

set_option maxHeartbeats 1000000 in
theorem fcmp_core (a b c d : Int) (hf : Fr (a, b)) (hg : Fr (c, d)) (w : World) :
    Calls Tryz.prog 82 #[.agg #[.int .i64 a, .int .i64 b], .agg #[.int .i64 c, .int .i64 d]] w fun e w' => e = .returned (.int .i64 (fc (a, b) (c, d))) ∧ Below w.heap.size w w' := by
  obtain ⟨a1, b1, b2⟩ := hf
  obtain ⟨c1, d1, d2⟩ := hg
  simp only at a1 b1 b2 c1 d1 d2
  by_cases h1 : b = 0
  · have t1 : (b == 0) = true := by simp [h1]
    have E : Hid (ord d b = fc (a, b) (c, d)) := by show _ = _; unfold fc; rw [if_pos (.inl h1)]
    clear h1
    go_enter Tryz.func82, Tryz.ntmps82
    go_wp2_with (go_at_call 91; refine (icmp_any _ _ _).mono ?_; rintro e w1 ⟨rfl, rfl⟩)
    go_ret
    exact ⟨ret1 E.out, (by repeat (first | exact Below.refl _ _ | assumption | refine Below.alloc ?_ (by simp <;> omega) _ | refine Below.setCell ?_ (by simp <;> omega) _ | refine Below.drew ?_ | refine below_drewN ?_ _))⟩
  · have t1 : (b == 0) = false := by simp [h1]
    by_cases h2 : d = 0
    · have t2 : (d == 0) = true := by simp [h2]
      have E : Hid (ord d b = fc (a, b) (c, d)) := by show _ = _; unfold fc; rw [if_pos (.inr h2)]
      clear h1 h2
      go_enter Tryz.func82, Tryz.ntmps82
      go_wp2_with (go_at_call 91; refine (icmp_any _ _ _).mono ?_; rintro e w1 ⟨rfl, rfl⟩)
      go_ret
      exact ⟨ret1 E.out, (by repeat (first | exact Below.refl _ _ | assumption | refine Below.alloc ?_ (by simp <;> omega) _ | refine Below.setCell ?_ (by simp <;> omega) _ | refine Below.drew ?_ | refine below_drewN ?_ _))⟩
    · have t2 : (d == 0) = false := by simp [h2]
      have E : Hid (fc (a, b) (c, d) = ord (a * d) (c * b)) := by show _ = _; unfold fc; rw [if_neg (by simp [h1, h2])]
      have hc := fun w => cmp_any a b c d a1 ⟨by omega, b2⟩ c1 ⟨by omega, d2⟩ w
      rw [show cmpv a b c d = ord (a * d) (c * b) by unfold cmpv; rw [if_neg (by omega)]] at hc
      have HC := hid hc
      clear hc h1 h2
      go_enter Tryz.func82, Tryz.ntmps82
      go_wp2_with fail
      refine (HC.out _).mono ?_
      rintro e w1 ⟨rfl, q1⟩
      go_wp2
      go_ret
      exact ⟨ret1 E.out.symm, Below.trans (by repeat (first | exact Below.refl _ _ | assumption | refine Below.alloc ?_ (by simp <;> omega) _ | refine Below.setCell ?_ (by simp <;> omega) _ | refine Below.drew ?_ | refine below_drewN ?_ _)) (q1.mono (by simp <;> omega))⟩

theorem fcmp_any (f g : Int × Int) (hf : Fr f) (hg : Fr g) (w : World) :
    Calls Tryz.prog 82 #[.agg #[.int .i64 f.1, .int .i64 f.2], .agg #[.int .i64 g.1, .int .i64 g.2]] w fun e w' => e = .returned (.int .i64 (fc f g)) ∧ Below w.heap.size w w' :=
  fcmp_core f.1 f.2 g.1 g.2 hf hg w

set_option maxHeartbeats 1000000 in
theorem divide_any (a b x : Int) (h1 : -9223372036854775808 ≤ b * x) (h2 : b * x ≤ 9223372036854775807) (w : World) :
    Calls Tryz.prog 81 #[.agg #[.int .i64 a, .int .i64 b], .int .i64 x] w fun e w' => e = .returned (.agg #[.int .i64 a, .int .i64 (b * x)]) ∧ Below w.heap.size w w' := by
  have pw := w64_in h1 h2
  go_enter Tryz.func81, Tryz.ntmps81
  go_wp2
  exact bodyPost_ret (v := .agg #[.int .i64 a, .int .i64 (b * x)]) (by simp [results, Tryz.results81, go_sem]) rfl ⟨rfl, (by repeat (first | exact Below.refl _ _ | assumption | refine Below.alloc ?_ (by simp <;> omega) _ | refine Below.setCell ?_ (by simp <;> omega) _ | refine Below.drew ?_ | refine below_drewN ?_ _))⟩

theorem shr_fr {p q : Int} (hp : okp p) (hq : okp q) : Fr (shr p q) ∧ 0 ≤ (shr p q).1 := by
  unfold okp at hp hq
  unfold shr Fr I64
  split
  · simp only; omega
  · split <;> simp <;> omega

end Go.Proofs.YtdbkjcnanffibaaGreat

namespace Go.Proofs.YtdbkjcnanffibaaGreat
open Go.RowKit Go.Shelf
set_option linter.unusedVariables false
attribute [local go_sem] Oper.semAt_some

/-- Two parts of amounts, side by side. -/
abbrev Am := { x : Int × Int // okp x.1 ∧ okp x.2 }
abbrev encS (x : Am) : Array Value := #[.int .i64 x.1.1, .int .i64 x.1.2]

set_option maxHeartbeats 1000000 in
theorem pairs_stopsS (n : Nat) (hn : 1 ≤ n) (Bn : Nat) (c m d k : Int) (o1 : okp c ∧ okp d) (o2 : okp m ∧ okp k) (w : World) (hBw : Bn + 1 < w.heap.size)
    (h0 : w.cell? ⟨Bn, 0, none⟩ = some (.int .i64 c)) (h1 : w.cell? ⟨Bn, 1, none⟩ = some (.int .i64 m)) (g0 : w.cell? ⟨Bn + 1, 0, none⟩ = some (.int .i64 d)) (g1 : w.cell? ⟨Bn + 1, 1, none⟩ = some (.int .i64 k)) :
    SeqStopsK Fence.wide n Tryz.prog 77 #[.pointer (some ⟨Bn, 0, none⟩), .pointer (some ⟨Bn + 1, 0, none⟩)] encS (KeepTwo Bn) (fun xs => xs = [⟨(c, d), o1⟩, ⟨(m, k), o2⟩]) (fun pre => pre = [⟨(c, d), o1⟩] ∨ pre = [⟨(c, d), o1⟩, ⟨(m, k), o2⟩]) 2 w := fun l J Jx W hW hJ hJx hY hj => by
  refine callsIn_of_wp Tryz.func77 rfl trivial ?_ rfl
  simp only [Tryz.ntmps77, List.size_toArray, List.length_cons, List.length_nil, Nat.reduceAdd, Nat.reduceSub, Array.replicate_succ, Array.replicate_zero, List.push_toArray, List.append_toArray, List.nil_append, List.cons_append]
  have c0 : W.cell? ⟨Bn, 0, none⟩ = some (.int .i64 c) := (hW.cell (p := ⟨Bn, 0, none⟩) (by show Bn < _; omega)).trans h0
  have c1 : W.cell? ⟨Bn, 1, none⟩ = some (.int .i64 m) := (hW.cell (p := ⟨Bn, 1, none⟩) (by show Bn < _; omega)).trans h1
  have e0 : W.cell? ⟨Bn + 1, 0, none⟩ = some (.int .i64 d) := (hW.cell (p := ⟨Bn + 1, 0, none⟩) hBw).trans g0
  have e1 : W.cell? ⟨Bn + 1, 1, none⟩ = some (.int .i64 k) := (hW.cell (p := ⟨Bn + 1, 1, none⟩) hBw).trans g1
  obtain ⟨f1, t1, a1, b1, hy1, hR1⟩ := hY [] ⟨(c, d), o1⟩ W hj (by simp)
  dsimp only [encS] at hy1
  gi_wp2
  refine hR1.mono ?_
  rintro e W1 (⟨rfl, hJ1, hk1⟩ | ⟨rfl, hx1⟩)
  · have d1 : W1.cell? ⟨Bn, 1, none⟩ = some (.int .i64 m) := (hk1 1).1.trans c1
    have d2 : W1.cell? ⟨Bn + 1, 1, none⟩ = some (.int .i64 k) := (hk1 1).2.trans e1
    obtain ⟨f2, t2, a2, b2, hy2, hR2⟩ := hY [⟨(c, d), o1⟩] ⟨(m, k), o2⟩ W1 hJ1 (by simp)
    dsimp only [encS] at hy2
    gi_wp2
    refine hR2.mono ?_
    rintro e W2 (⟨rfl, hJ2, _⟩ | ⟨rfl, hx2⟩)
    · gi_wp2
      go_end0
      exact ⟨⟨_, rfl⟩, .inl ⟨_, rfl, hJ2⟩⟩
    · gi_wp2
      go_end0
      exact ⟨⟨_, rfl⟩, .inr ⟨_, .inr rfl, hx2⟩⟩
  · gi_wp2
    go_end0
    exact ⟨⟨_, rfl⟩, .inr ⟨_, .inl rfl, hx1⟩⟩

/-- The greatest fraction so far. -/
def gstep (g : Int × Int) (x : Am) : Int × Int := if 0 < fc (shr x.1.1 x.1.2) g then shr x.1.1 x.1.2 else g
def gfold (pre : List Am) : Int × Int := pre.foldl gstep (-1, 1)
theorem gfold_snoc (pre : List Am) (x : Am) : gfold (pre ++ [x]) = gstep (gfold pre) x := by simp [gfold]
theorem gstep_fr {g : Int × Int} (h : Fr g) (x : Am) : Fr (gstep g x) := by
  unfold gstep
  split
  · exact (shr_fr x.2.1 x.2.2).1
  · exact h
theorem foldl_fr (pre : List Am) : ∀ g : Int × Int, Fr g → Fr (pre.foldl gstep g) := by
  induction pre with
  | nil => intro g h; exact h
  | cons x l ih => intro g h; exact ih _ (gstep_fr h x)
theorem gfold_fr (pre : List Am) : Fr (gfold pre) := foldl_fr pre _ (by unfold Fr I64; simp)

theorem keepsOthers_below {W W' : World} (h : Below W.heap.size W W') : KeepsOthers W W' :=
  ⟨h.size, fun k o hk _ => (h.block k (Array.getElem?_eq_some_iff.1 hk).1).trans hk⟩

/-- What the loop keeps: the greatest fraction's cells, and room for the result. -/
def DomI (S : Nat) (pre : List Am) (W : World) : Prop :=
  W.cell? ⟨S + 1 + 1 + 1, 0, none⟩ = some (.int .i64 (gfold pre).1) ∧ W.cell? ⟨S + 1 + 1 + 1, 1, none⟩ = some (.int .i64 (gfold pre).2) ∧ W.frozen? ⟨S + 1 + 1 + 1, 0, none⟩ = false ∧ W.frozen? ⟨S + 1 + 1 + 1, 1, none⟩ = false
  ∧ W.cell? ⟨S + 1 + 1, 0, none⟩ = some (.int .i64 0) ∧ W.cell? ⟨S + 1 + 1, 1, none⟩ = some (.int .i64 0) ∧ W.frozen? ⟨S + 1 + 1, 0, none⟩ = false ∧ W.frozen? ⟨S + 1 + 1, 1, none⟩ = false

set_option maxRecDepth 100000 in
set_option maxHeartbeats 4000000 in
theorem dominant_in (c m d k : Int) (o1 : okp c ∧ okp d) (o2 : okp m ∧ okp k) (w : World) :
    CallsIn Fence.wide 5 Tryz.prog 80 #[.agg #[.int .i64 c, .int .i64 m], .agg #[.int .i64 d, .int .i64 k]] w fun e W' =>
      e = .returned (.agg #[.int .i64 (gfold [⟨(c, d), o1⟩, ⟨(m, k), o2⟩]).1, .int .i64 (gfold [⟨(c, d), o1⟩, ⟨(m, k), o2⟩]).2]) ∧ Below w.heap.size w W' := by
  refine callsIn_of_wp_marks Tryz.func80 rfl trivial ?_ rfl
  simp only [Tryz.ntmps80, List.size_toArray, List.length_cons, List.length_nil, Nat.reduceAdd, Nat.reduceSub, Array.replicate_succ, Array.replicate_zero, List.push_toArray, List.append_toArray, List.nil_append, List.cons_append]
  gi_wp2_with (refine ⟨trivial, ?_⟩; gi_at_call 56; refine (callsIn_wide.2 (pairs_any c m d k _)).mono ?_; rintro e w' ⟨rfl, rfl⟩)
  have st : DomI w.heap.size [] ((((((w.alloc (.cells #[.int .i64 c, .int .i64 m] 33)).alloc (.cells #[.int .i64 d, .int .i64 k] 33)).alloc (.cells #[.int .i64 0, .int .i64 0] 127)).alloc (.cells #[.int .i64 (-1), .int .i64 1] 127)).alloc (.cells #[.int .i64 c, .int .i64 m] 33)).alloc (.cells #[.int .i64 d, .int .i64 k] 33)) := by unfold DomI; simp [go_sem, gfold]
  have b0 : ((((((w.alloc (.cells #[.int .i64 c, .int .i64 m] 33)).alloc (.cells #[.int .i64 d, .int .i64 k] 33)).alloc (.cells #[.int .i64 0, .int .i64 0] 127)).alloc (.cells #[.int .i64 (-1), .int .i64 1] 127)).alloc (.cells #[.int .i64 c, .int .i64 m] 33)).alloc (.cells #[.int .i64 d, .int .i64 k] 33)).cell? ⟨w.heap.size + 1 + 1 + 1 + 1, 0, none⟩ = some (.int .i64 c) := by simp [go_sem]
  have b1 : ((((((w.alloc (.cells #[.int .i64 c, .int .i64 m] 33)).alloc (.cells #[.int .i64 d, .int .i64 k] 33)).alloc (.cells #[.int .i64 0, .int .i64 0] 127)).alloc (.cells #[.int .i64 (-1), .int .i64 1] 127)).alloc (.cells #[.int .i64 c, .int .i64 m] 33)).alloc (.cells #[.int .i64 d, .int .i64 k] 33)).cell? ⟨w.heap.size + 1 + 1 + 1 + 1, 1, none⟩ = some (.int .i64 m) := by simp [go_sem]
  have e0 : ((((((w.alloc (.cells #[.int .i64 c, .int .i64 m] 33)).alloc (.cells #[.int .i64 d, .int .i64 k] 33)).alloc (.cells #[.int .i64 0, .int .i64 0] 127)).alloc (.cells #[.int .i64 (-1), .int .i64 1] 127)).alloc (.cells #[.int .i64 c, .int .i64 m] 33)).alloc (.cells #[.int .i64 d, .int .i64 k] 33)).cell? ⟨w.heap.size + 1 + 1 + 1 + 1 + 1, 0, none⟩ = some (.int .i64 d) := by simp [go_sem]
  have e1 : ((((((w.alloc (.cells #[.int .i64 c, .int .i64 m] 33)).alloc (.cells #[.int .i64 d, .int .i64 k] 33)).alloc (.cells #[.int .i64 0, .int .i64 0] 127)).alloc (.cells #[.int .i64 (-1), .int .i64 1] 127)).alloc (.cells #[.int .i64 c, .int .i64 m] 33)).alloc (.cells #[.int .i64 d, .int .i64 k] 33)).cell? ⟨w.heap.size + 1 + 1 + 1 + 1 + 1, 1, none⟩ = some (.int .i64 k) := by simp [go_sem]
  have hB0 : Below w.heap.size w ((((((w.alloc (.cells #[.int .i64 c, .int .i64 m] 33)).alloc (.cells #[.int .i64 d, .int .i64 k] 33)).alloc (.cells #[.int .i64 0, .int .i64 0] 127)).alloc (.cells #[.int .i64 (-1), .int .i64 1] 127)).alloc (.cells #[.int .i64 c, .int .i64 m] 33)).alloc (.cells #[.int .i64 d, .int .i64 k] 33)) := (by repeat (first | exact Below.refl _ _ | assumption | refine Below.alloc ?_ (by simp <;> omega) _ | refine Below.setCell ?_ (by simp <;> omega) _ | refine Below.drew ?_ | refine below_drewN ?_ _))
  refine wpIn_rangeFunc_ownF rfl (by omega) (gf := 77) (lb := #[.pointer (some ⟨w.heap.size + 1 + 1 + 1 + 1, 0, none⟩), .pointer (some ⟨w.heap.size + 1 + 1 + 1 + 1 + 1, 0, none⟩)]) rfl trivial (enters_of Tryz.func77 (by kernel_rfl) rfl)
    (pairs_stopsS 4 (by omega) (w.heap.size + 1 + 1 + 1 + 1) c m d k o1 o2 _ (by simp) b0 b1 e0 e1) keepTwo_t (keepTwo_b (by simp)) (Below.refl _ _) (fun _ => rfl)
    (fun pre W => (DomI w.heap.size pre W ∧ W.cell? ⟨w.heap.size + 1 + 1 + 1 + 1 + 1, 0, none⟩ = some (.int .i64 d)) ∧ Below w.heap.size w W)
    (fun _ _ _ => False)
    (OwnFrom.and (Own.from (fun s A B row hs' hg hr => by obtain ⟨hs, he⟩ := hs'; exact ⟨⟨cell_kept hs.1 hg hr, cell_kept hs.2.1 hg hr, (frozen_kept hs.1 hg hr).trans hs.2.2.1, (frozen_kept hs.2.1 hg hr).trans hs.2.2.2.1, cell_kept hs.2.2.2.2.1 hg hr, cell_kept hs.2.2.2.2.2.1 hg hr, (frozen_kept hs.2.2.2.2.1 hg hr).trans hs.2.2.2.2.2.2.1, (frozen_kept hs.2.2.2.2.2.1 hg hr).trans hs.2.2.2.2.2.2.2⟩, cell_kept he hg hr⟩) _) (ownFrom_below (Nat.le_refl _) (by simp; omega)))
    (fun _ _ _ _ _ hs _ _ => hs)
    ⟨⟨st, e0⟩, hB0⟩
    (fun x => { tmps := #[.agg #[.int .i64 c, .int .i64 m], .agg #[.int .i64 d, .int .i64 k], .pointer (some ⟨w.heap.size, 0, none⟩), .pointer (some ⟨w.heap.size + 1, 0, none⟩), .pointer (some ⟨w.heap.size + 1 + 1, 0, none⟩), .pointer (some ⟨w.heap.size + 1 + 1 + 1, 0, none⟩), .int .i64 x.1.1, .int .i64 x.1.2, undef, .agg #[.int .i64 (-1), .int .i64 1], .agg #[.int .i64 c, .int .i64 m], .agg #[.int .i64 d, .int .i64 k],
        .func (.func 77) #[] #[.pointer (some ⟨w.heap.size + 1 + 1 + 1 + 1, 0, none⟩), .pointer (some ⟨w.heap.size + 1 + 1 + 1 + 1 + 1, 0, none⟩)], .int .i64 x.1.1, .int .i64 x.1.2, undef, undef, undef, undef, undef, undef, undef, undef, undef], defers := [] }) ?assign ?body ?done ?stop
  case assign =>
    intro l x W K hK
    gi_wp2
    exact hK
  case body =>
    rintro l pre x W ⟨⟨hD, he⟩, hB⟩ _
    have hsz := cell_lt he
    simp only at hsz
    have HE := hid he
    clear he
    obtain ⟨c0, c1, f0, f1, c2, c3, f2, f3⟩ := hD
    have hF := (shr_fr x.2.1 x.2.2).1
    have hG := gfold_fr pre
    have lt0 := cell_lt c0
    simp only at lt0
    by_cases hgt : 0 < fc (shr x.1.1 x.1.2) (gfold pre)
    · have t0 : decide (0 < fc (shr x.1.1 x.1.2) (gfold pre)) = true := by simp; omega
      have E : Hid (gfold (pre ++ [x]) = shr x.1.1 x.1.2) := by show _ = _; rw [gfold_snoc]; unfold gstep; rw [if_pos hgt]
      gi_wp2_with fail
      refine ⟨trivial, ?_⟩
      refine (CallsIn.inRound l (callsIn_wide.2 (share_any _ _ _))).mono ?_
      rintro e w1 ⟨rfl, h1⟩
      have u0 := keepc h1 c0; have u1 := keepc h1 c1; have v0 := keepf h1 c0 f0; have v1 := keepf h1 c1 f1
      have u2 := keepc h1 c2; have u3 := keepc h1 c3; have v2 := keepf h1 c2 f2; have v3 := keepf h1 c3 f3
      have lt3 := cell_lt u0
      have lt2 := cell_lt u2
      simp only at lt3 lt2
      clear c0 c1 f0 f1 c2 c3 f2 f3
      gi_wp2_with fail
      refine ⟨trivial, ?_⟩
      refine (CallsIn.inRound l (callsIn_wide.2 (fcmp_any _ _ hF hG _))).mono ?_
      rintro e w2 ⟨rfl, h2⟩
      have z0 := keepf h2 (a := ⟨w.heap.size + 1 + 1 + 1, 0, none⟩) (v := .int .i64 (gfold pre).1) (by simp [go_sem, u0, lt3]) (by simp [go_sem, v0, lt3])
      have y0 := keepc h2 (a := ⟨w.heap.size + 1 + 1 + 1, 0, none⟩) (v := .int .i64 (gfold pre).1) (by simp [go_sem, u0, lt3])
      have z1 := keepf h2 (a := ⟨w.heap.size + 1 + 1 + 1, 1, none⟩) (v := .int .i64 (gfold pre).2) (by simp [go_sem, u1, lt3]) (by simp [go_sem, v1, lt3])
      have y1 := keepc h2 (a := ⟨w.heap.size + 1 + 1 + 1, 1, none⟩) (v := .int .i64 (gfold pre).2) (by simp [go_sem, u1, lt3])
      have z2 := keepf h2 (a := ⟨w.heap.size + 1 + 1, 0, none⟩) (v := .int .i64 0) (by simp [go_sem, u2, lt2]) (by simp [go_sem, v2, lt2])
      have y2 := keepc h2 (a := ⟨w.heap.size + 1 + 1, 0, none⟩) (v := .int .i64 0) (by simp [go_sem, u2, lt2])
      have z3 := keepf h2 (a := ⟨w.heap.size + 1 + 1, 1, none⟩) (v := .int .i64 0) (by simp [go_sem, u3, lt2]) (by simp [go_sem, v3, lt2])
      have y3 := keepc h2 (a := ⟨w.heap.size + 1 + 1, 1, none⟩) (v := .int .i64 0) (by simp [go_sem, u3, lt2])
      have y4 := keepc h2 (a := ⟨w1.heap.size, 0, none⟩) (v := .int .i64 (shr x.1.1 x.1.2).1) (by simp [go_sem])
      have y5 := keepc h2 (a := ⟨w1.heap.size, 1, none⟩) (v := .int .i64 (shr x.1.1 x.1.2).2) (by simp [go_sem])
      have k2 : Below W.heap.size W w2 := (h1.alloc h1.size _).trans (h2.mono (by simp; have := h1.size; omega))
      have hB2 := hB.trans (k2.mono hB.size)
      clear u0 u1 v0 v1 u2 u3 v2 v3
      gi_wp2
      refine ⟨(keepsOthers_below k2).trans ((KeepsOthers.setCell _ _ _).trans (KeepsOthers.setCell _ _ _)), ?_, ⟨⟨?_, ?_, ?_, ?_, ?_, ?_, ?_, ?_⟩, ?_⟩, (hB2.setCell (p := ⟨w.heap.size + 1 + 1 + 1, 0, none⟩) (by simp; omega) _).setCell (p := ⟨w.heap.size + 1 + 1 + 1, 1, none⟩) (by simp; omega) _⟩
      · intro o
        have kk := keepTwo_below (B := w.heap.size + 1 + 1 + 1 + 1) k2 hsz o
        constructor
        · have k1 := kk.1; simpa [go_sem] using k1
        · have k1 := kk.2; simpa [go_sem] using k1
      · rw [E.out]; simp [go_sem, y0]
      · rw [E.out]; simp [go_sem, y1]
      · simp [go_sem, z0]
      · simp [go_sem, z1]
      · simp [go_sem, y2]
      · simp [go_sem, y3]
      · simp [go_sem, z2]
      · simp [go_sem, z3]
      · have k1 := keepc k2 HE.out; simpa [go_sem] using k1
    · have t0 : decide (0 < fc (shr x.1.1 x.1.2) (gfold pre)) = false := by simp; omega
      have E : Hid (gfold (pre ++ [x]) = gfold pre) := by show _ = _; rw [gfold_snoc]; unfold gstep; rw [if_neg hgt]
      gi_wp2_with fail
      refine ⟨trivial, ?_⟩
      refine (CallsIn.inRound l (callsIn_wide.2 (share_any _ _ _))).mono ?_
      rintro e w1 ⟨rfl, h1⟩
      have u0 := keepc h1 c0; have u1 := keepc h1 c1; have v0 := keepf h1 c0 f0; have v1 := keepf h1 c1 f1
      have u2 := keepc h1 c2; have u3 := keepc h1 c3; have v2 := keepf h1 c2 f2; have v3 := keepf h1 c3 f3
      have lt3 := cell_lt u0
      have lt2 := cell_lt u2
      simp only at lt3 lt2
      clear c0 c1 f0 f1 c2 c3 f2 f3
      gi_wp2_with fail
      refine ⟨trivial, ?_⟩
      refine (CallsIn.inRound l (callsIn_wide.2 (fcmp_any _ _ hF hG _))).mono ?_
      rintro e w2 ⟨rfl, h2⟩
      have z0 := keepf h2 (a := ⟨w.heap.size + 1 + 1 + 1, 0, none⟩) (v := .int .i64 (gfold pre).1) (by simp [go_sem, u0, lt3]) (by simp [go_sem, v0, lt3])
      have y0 := keepc h2 (a := ⟨w.heap.size + 1 + 1 + 1, 0, none⟩) (v := .int .i64 (gfold pre).1) (by simp [go_sem, u0, lt3])
      have z1 := keepf h2 (a := ⟨w.heap.size + 1 + 1 + 1, 1, none⟩) (v := .int .i64 (gfold pre).2) (by simp [go_sem, u1, lt3]) (by simp [go_sem, v1, lt3])
      have y1 := keepc h2 (a := ⟨w.heap.size + 1 + 1 + 1, 1, none⟩) (v := .int .i64 (gfold pre).2) (by simp [go_sem, u1, lt3])
      have z2 := keepf h2 (a := ⟨w.heap.size + 1 + 1, 0, none⟩) (v := .int .i64 0) (by simp [go_sem, u2, lt2]) (by simp [go_sem, v2, lt2])
      have y2 := keepc h2 (a := ⟨w.heap.size + 1 + 1, 0, none⟩) (v := .int .i64 0) (by simp [go_sem, u2, lt2])
      have z3 := keepf h2 (a := ⟨w.heap.size + 1 + 1, 1, none⟩) (v := .int .i64 0) (by simp [go_sem, u3, lt2]) (by simp [go_sem, v3, lt2])
      have y3 := keepc h2 (a := ⟨w.heap.size + 1 + 1, 1, none⟩) (v := .int .i64 0) (by simp [go_sem, u3, lt2])
      have y4 := keepc h2 (a := ⟨w1.heap.size, 0, none⟩) (v := .int .i64 (shr x.1.1 x.1.2).1) (by simp [go_sem])
      have y5 := keepc h2 (a := ⟨w1.heap.size, 1, none⟩) (v := .int .i64 (shr x.1.1 x.1.2).2) (by simp [go_sem])
      have k2 : Below W.heap.size W w2 := (h1.alloc h1.size _).trans (h2.mono (by simp; have := h1.size; omega))
      have hB2 := hB.trans (k2.mono hB.size)
      clear u0 u1 v0 v1 u2 u3 v2 v3
      gi_wp2
      refine ⟨keepsOthers_below k2, keepTwo_below k2 hsz, ⟨⟨by rw [E.out]; exact y0, by rw [E.out]; exact y1, z0, z1, y2, y3, z2, z3⟩, keepc k2 HE.out⟩, hB2⟩
  case done =>
    rintro D ys W hD rfl ⟨⟨hI, _⟩, hB⟩ hK
    obtain ⟨c0, c1, f0, f1, c2, c3, f2, f3⟩ := hI
    gi_wp2
    have kk := (KeepsOthers.setCell W ⟨w.heap.size + 1 + 1, 0, none⟩ (.int .i64 (gfold [⟨(c, d), o1⟩, ⟨(m, k), o2⟩]).1)).trans (KeepsOthers.setCell _ ⟨w.heap.size + 1 + 1, 1, none⟩ (.int .i64 (gfold [⟨(c, d), o1⟩, ⟨(m, k), o2⟩]).2))
    have hK' := kk.same D _ hK rfl
    refine ⟨by simp, .inl ⟨_, _, rfl, run_takeDeferred hK', ?_⟩⟩
    have g0 : ((W.setCell ⟨w.heap.size + 1 + 1, 0, none⟩ (.int .i64 (gfold [⟨(c, d), o1⟩, ⟨(m, k), o2⟩]).1)).setCell ⟨w.heap.size + 1 + 1, 1, none⟩ (.int .i64 (gfold [⟨(c, d), o1⟩, ⟨(m, k), o2⟩]).2)).cell? ⟨w.heap.size + 1 + 1, 0, none⟩ = some (.int .i64 (gfold [⟨(c, d), o1⟩, ⟨(m, k), o2⟩]).1) := by simp [go_sem, c2]
    have g1 : ((W.setCell ⟨w.heap.size + 1 + 1, 0, none⟩ (.int .i64 (gfold [⟨(c, d), o1⟩, ⟨(m, k), o2⟩]).1)).setCell ⟨w.heap.size + 1 + 1, 1, none⟩ (.int .i64 (gfold [⟨(c, d), o1⟩, ⟨(m, k), o2⟩]).2)).cell? ⟨w.heap.size + 1 + 1, 1, none⟩ = some (.int .i64 (gfold [⟨(c, d), o1⟩, ⟨(m, k), o2⟩]).2) := by simp [go_sem, c3]
    have hc0 := cell_kept g0 (grownBy_putObj' _ D (.deferred none)) (fun r e => by cases e; exact ⟨_, hK', rfl⟩)
    have hc1 := cell_kept g1 (grownBy_putObj' _ D (.deferred none)) (fun r e => by cases e; exact ⟨_, hK', rfl⟩)
    refine ⟨.agg #[.int .i64 (gfold [⟨(c, d), o1⟩, ⟨(m, k), o2⟩]).1, .int .i64 (gfold [⟨(c, d), o1⟩, ⟨(m, k), o2⟩]).2], ?_, rfl, ((hB.setCell (p := ⟨w.heap.size + 1 + 1, 0, none⟩) (by simp; omega) _).setCell (p := ⟨w.heap.size + 1 + 1, 1, none⟩) (by simp; omega) _).trans (belowK_b (w := w) (Nat.le_refl _) _ D _ _ (by simp at hD; omega) hK' rfl rfl)⟩
    simp [results, Tryz.f80, go_sem, hc0, hc1]
  case stop =>
    rintro D j pre W _ _ h _
    exact h.elim

theorem dominant_any (c m d k : Int) (o1 : okp c ∧ okp d) (o2 : okp m ∧ okp k) (w : World) :
    Calls Tryz.prog 80 #[.agg #[.int .i64 c, .int .i64 m], .agg #[.int .i64 d, .int .i64 k]] w fun e W' =>
      e = .returned (.agg #[.int .i64 (gfold [⟨(c, d), o1⟩, ⟨(m, k), o2⟩]).1, .int .i64 (gfold [⟨(c, d), o1⟩, ⟨(m, k), o2⟩]).2]) ∧ Below w.heap.size w W' := callsIn_wide.1 (dominant_in c m d k o1 o2 w)

end Go.Proofs.YtdbkjcnanffibaaGreat

namespace Go.Proofs.YtdbkjcnanffibaaGreat
open Go.RowKit Go.Shelf
set_option linter.unusedVariables false

/-- The dominant share of amounts. -/
def dom (c m d k : Int) : Int × Int := if 0 < fc (shr m k) (shr c d) then shr m k else shr c d
theorem shr_first {p q : Int} (hp : okp p) (hq : okp q) : 0 < fc (shr p q) (-1, 1) := by
  unfold okp at hp hq
  unfold shr
  split
  · unfold fc ord; simp only; split
    · omega
    · split
      · omega
      · split <;> omega
  · split
    · decide
    · decide
theorem gfold_dom {c m d k : Int} (o1 : okp c ∧ okp d) (o2 : okp m ∧ okp k) : gfold [⟨(c, d), o1⟩, ⟨(m, k), o2⟩] = dom c m d k := by
  have h := shr_first o1.1 o1.2
  unfold gfold dom
  simp only [List.foldl, gstep]
  rw [if_pos h]
theorem dom_any (c m d k : Int) (o1 : okp c ∧ okp d) (o2 : okp m ∧ okp k) (w : World) :
    Calls Tryz.prog 80 #[.agg #[.int .i64 c, .int .i64 m], .agg #[.int .i64 d, .int .i64 k]] w fun e W' =>
      e = .returned (.agg #[.int .i64 (dom c m d k).1, .int .i64 (dom c m d k).2]) ∧ Below w.heap.size w W' := by
  have h := dominant_any c m d k o1 o2 w
  rw [gfold_dom] at h
  exact h
theorem dom_fr {c m d k : Int} (o1 : okp c ∧ okp d) (o2 : okp m ∧ okp k) : Fr (dom c m d k) ∧ 0 ≤ (dom c m d k).1 ∧ (dom c m d k).2 ≤ 1099511627776 := by
  unfold dom
  split
  · refine ⟨(shr_fr o2.1 o2.2).1, (shr_fr o2.1 o2.2).2, ?_⟩
    have := o2.2.2; unfold shr; split
    · exact this
    · split <;> simp
  · refine ⟨(shr_fr o1.1 o1.2).1, (shr_fr o1.1 o1.2).2, ?_⟩
    have := o1.2.2; unfold shr; split
    · exact this
    · split <;> simp

/-- Share's three answers. -/
def shv (c m d k : Int) : Int × Int × Int := if okv (c, m) = true ∧ okv (d, k) = true then ((dom c m d k).1, (dom c m d k).2, 0) else (0, 0, 1)

theorem ret3 {k l j : IntKind} {a b c d e f : Int} (h : a = d) (g : b = e) (i : c = f) : Ending.returned (.tuple #[.int k a, .int l b, .int j c]) = .returned (.tuple #[.int k d, .int l e, .int j f]) := by rw [h, g, i]

theorem row2_three {w : World} {B : Nat} {c m d k x y : Int} (h0 : w.cell? ⟨B, 0, none⟩ = some (.int .i64 c)) (h1 : w.cell? ⟨B, 1, none⟩ = some (.int .i64 m)) (h2 : w.cell? ⟨B, 2, none⟩ = some (.int .i64 d)) (h3 : w.cell? ⟨B, 3, none⟩ = some (.int .i64 k)) (h4 : w.cell? ⟨B, 4, none⟩ = some (.int .i64 x)) (h5 : w.cell? ⟨B, 5, none⟩ = some (.int .i64 y)) : Row2 w B 3 [(c, m), (d, k), (x, y)] := by
  refine ⟨rfl, by omega, fun j hj => ?_⟩
  obtain rfl | rfl | rfl : j = 0 ∨ j = 1 ∨ j = 2 := by omega
  · exact ⟨h0, h1⟩
  · exact ⟨h2, h3⟩
  · exact ⟨h4, h5⟩

theorem mul_bd {b x : Int} (b0 : 0 ≤ b) (b1 : b ≤ 1099511627776) (x0 : 1 ≤ x) (x1 : x ≤ 1048576) : 0 ≤ b * x ∧ b * x ≤ 1152921504606846976 := by
  refine ⟨Int.mul_nonneg b0 (by omega), ?_⟩
  have := Int.mul_le_mul b1 x1 (by omega) (show (0 : Int) ≤ 1099511627776 by omega)
  omega

/-- Less of amounts and weights. -/
def lev (c m x d k y p q : Int) : Int := fc ((dom c m p q).1, (dom c m p q).2 * x) ((dom d k p q).1, (dom d k p q).2 * y)
/-- Are all arguments of Less as they may be? -/
def leok (c m x d k y p q : Int) : Bool := [(c, m), (d, k), (p, q)].all okv && (okw x && okw y)

set_option maxHeartbeats 4000000 in
theorem less_no (c m x d k y p q : Int) (h : leok c m x d k y p q = false) (w : World) :
    Calls Tryz.prog 64 #[.agg #[.int .i64 c, .int .i64 m], .int .i64 x, .agg #[.int .i64 d, .int .i64 k], .int .i64 y, .agg #[.int .i64 p, .int .i64 q]] w fun e w' =>
      e = .returned (.tuple #[.int .i64 0, .int .i64 1]) ∧ Below w.heap.size w w' := by
  cases hok : [(c, m), (d, k), (p, q)].all okv
  · have HK := hid hok
    clear hok h
    go_enter Tryz.func64, Tryz.ntmps64
    go_wp2_with fail
    refine (amounts_any _ 3 3 [(c, m), (d, k), (p, q)] _ (row2_three (by simp [go_sem]) (by simp [go_sem]) (by simp [go_sem]) (by simp [go_sem]) (by simp [go_sem]) (by simp [go_sem]))).mono ?_
    rintro e w1 ⟨rfl, h1⟩
    have hB1 : Below w.heap.size w w1 := Below.trans (by repeat (first | exact Below.refl _ _ | assumption | refine Below.alloc ?_ (by simp <;> omega) _ | refine Below.setCell ?_ (by simp <;> omega) _ | refine Below.drew ?_ | refine below_drewN ?_ _)) (h1.mono (by simp <;> omega))
    rw [HK.out]
    go_wp2
    go_ret2
    exact ⟨rfl, hB1⟩
  · have HW : Hid ((okw x && okw y) = false) := by unfold leok at h; rw [hok] at h; simpa [Hid] using h
    have HK := hid hok
    clear hok h
    go_enter Tryz.func64, Tryz.ntmps64
    go_wp2_with fail
    refine (amounts_any _ 3 3 [(c, m), (d, k), (p, q)] _ (row2_three (by simp [go_sem]) (by simp [go_sem]) (by simp [go_sem]) (by simp [go_sem]) (by simp [go_sem]) (by simp [go_sem]))).mono ?_
    rintro e w1 ⟨rfl, h1⟩
    have hB1 : Below w.heap.size w w1 := Below.trans (by repeat (first | exact Below.refl _ _ | assumption | refine Below.alloc ?_ (by simp <;> omega) _ | refine Below.setCell ?_ (by simp <;> omega) _ | refine Below.drew ?_ | refine below_drewN ?_ _)) (h1.mono (by simp <;> omega))
    rw [HK.out]
    go_wp2_with fail
    refine (weights_any _ 2 x y _ (by simp [go_sem]) (by simp [go_sem])).mono ?_
    rintro e w2 ⟨rfl, rfl⟩
    rw [HW.out]
    go_wp2
    go_ret2
    exact ⟨rfl, hB1.alloc hB1.size _⟩

set_option maxHeartbeats 4000000 in
theorem less_yes (c m x d k y p q : Int) (h : leok c m x d k y p q = true) (w : World) :
    Calls Tryz.prog 64 #[.agg #[.int .i64 c, .int .i64 m], .int .i64 x, .agg #[.int .i64 d, .int .i64 k], .int .i64 y, .agg #[.int .i64 p, .int .i64 q]] w fun e w' =>
      e = .returned (.tuple #[.int .i64 (lev c m x d k y p q), .int .i64 0]) ∧ Below w.heap.size w w' := by
  obtain ⟨hok, hw⟩ : [(c, m), (d, k), (p, q)].all okv = true ∧ (okw x && okw y) = true := by unfold leok at h; simpa using h
  obtain ⟨o1, o2, o3⟩ : okv (c, m) = true ∧ okv (d, k) = true ∧ okv (p, q) = true := by simpa using hok
  obtain ⟨a1, a2⟩ := okv_true o1
  obtain ⟨a3, a4⟩ := okv_true o2
  obtain ⟨a5, a6⟩ := okv_true o3
  have hx : 1 ≤ x ∧ x ≤ 1048576 := by have : okw x = true := by simp at hw; exact hw.1
                                      simpa [okw] using this
  have hy : 1 ≤ y ∧ y ≤ 1048576 := by have : okw y = true := by simp at hw; exact hw.2
                                      simpa [okw] using this
  have HK := hid hok
  have HW := hid hw
  have f1 := dom_fr ⟨a1, a5⟩ ⟨a2, a6⟩
  have f2 := dom_fr ⟨a3, a5⟩ ⟨a4, a6⟩
  have m1 := mul_bd f1.1.2.1 f1.2.2 hx.1 hx.2
  have m2 := mul_bd f2.1.2.1 f2.2.2 hy.1 hy.2
  have g1 : Fr ((dom c m p q).1, (dom c m p q).2 * x) := ⟨f1.1.1, m1.1, Int.le_trans m1.2 (by omega)⟩
  have g2 : Fr ((dom d k p q).1, (dom d k p q).2 * y) := ⟨f2.1.1, m2.1, Int.le_trans m2.2 (by omega)⟩
  have C1 := hid (fun w => dom_any c m p q ⟨a1, a5⟩ ⟨a2, a6⟩ w)
  have C2 := hid (fun w => dom_any d k p q ⟨a3, a5⟩ ⟨a4, a6⟩ w)
  have C5 : Hid (∀ w : World, Calls Tryz.prog 82 #[.agg #[.int .i64 (dom c m p q).1, .int .i64 ((dom c m p q).2 * x)], .agg #[.int .i64 (dom d k p q).1, .int .i64 ((dom d k p q).2 * y)]] w fun e w' => e = .returned (.int .i64 (lev c m x d k y p q)) ∧ Below w.heap.size w w') := fun w => fcmp_any _ _ g1 g2 w
  generalize lev c m x d k y p q = L at *
  generalize dom c m p q = D1 at *
  generalize dom d k p q = D2 at *
  have C3 := hid (fun w => divide_any D1.1 D1.2 x (by omega) (by omega) w)
  have C4 := hid (fun w => divide_any D2.1 D2.2 y (by omega) (by omega) w)
  clear hok hw h o1 o2 o3 f1 f2 m1 m2 g1 g2 a1 a2 a3 a4 a5 a6 hx hy
  go_enter Tryz.func64, Tryz.ntmps64
  go_wp2_with fail
  refine (amounts_any _ 3 3 [(c, m), (d, k), (p, q)] _ (row2_three (by simp [go_sem]) (by simp [go_sem]) (by simp [go_sem]) (by simp [go_sem]) (by simp [go_sem]) (by simp [go_sem]))).mono ?_
  rintro e w1 ⟨rfl, h1⟩
  have c0 := keepc h1 (a := ⟨w.heap.size, 0, none⟩) (v := .int .i64 c) (by simp [go_sem])
  have c1 := keepc h1 (a := ⟨w.heap.size, 1, none⟩) (v := .int .i64 m) (by simp [go_sem])
  have c2 := keepc h1 (a := ⟨w.heap.size + 1, 0, none⟩) (v := .int .i64 d) (by simp [go_sem])
  have c3 := keepc h1 (a := ⟨w.heap.size + 1, 1, none⟩) (v := .int .i64 k) (by simp [go_sem])
  have c4 := keepc h1 (a := ⟨w.heap.size + 1 + 1, 0, none⟩) (v := .int .i64 p) (by simp [go_sem])
  have c5 := keepc h1 (a := ⟨w.heap.size + 1 + 1, 1, none⟩) (v := .int .i64 q) (by simp [go_sem])
  have hB1 : Below w.heap.size w w1 := Below.trans (by repeat (first | exact Below.refl _ _ | assumption | refine Below.alloc ?_ (by simp <;> omega) _ | refine Below.setCell ?_ (by simp <;> omega) _ | refine Below.drew ?_ | refine below_drewN ?_ _)) (h1.mono (by simp <;> omega))
  rw [HK.out]
  go_wp2_with fail
  refine (weights_any _ 2 x y _ (by simp [go_sem]) (by simp [go_sem])).mono ?_
  rintro e w2 ⟨rfl, rfl⟩
  rw [HW.out]
  have hB : Below w.heap.size w (w1.alloc (.cells #[.int .i64 x, .int .i64 y] 2)) := hB1.alloc hB1.size _
  have kk : Below w1.heap.size w1 (w1.alloc (.cells #[.int .i64 x, .int .i64 y] 2)) := (by repeat (first | exact Below.refl _ _ | assumption | refine Below.alloc ?_ (by simp <;> omega) _ | refine Below.setCell ?_ (by simp <;> omega) _ | refine Below.drew ?_ | refine below_drewN ?_ _))
  have e0 := keepc kk c0; have e1 := keepc kk c1; have e2 := keepc kk c2; have e3 := keepc kk c3; have e4 := keepc kk c4; have e5 := keepc kk c5
  have EE : Hid (_ ∧ _ ∧ _ ∧ _ ∧ _ ∧ _) := ⟨e0, e1, e2, e3, e4, e5⟩
  have HB := hid hB
  clear e0 e1 e2 e3 e4 e5 c0 c1 c2 c3 c4 c5 hB1 hB kk h1
  go_upto_region 3 with fail
  generalize w1.alloc (.cells #[.int .i64 x, .int .i64 y] 2) = W at *
  obtain ⟨c0, c1, c2, c3, c4, c5⟩ := EE.out
  have hB := HB.out.drew
  clear HK HW HB
  go_region_held3 (fun w' => w'.cell? ⟨w.heap.size, 0, none⟩ = some (.int .i64 c) ∧ w'.cell? ⟨w.heap.size, 1, none⟩ = some (.int .i64 m) ∧ w'.cell? ⟨w.heap.size + 1, 0, none⟩ = some (.int .i64 d) ∧ w'.cell? ⟨w.heap.size + 1, 1, none⟩ = some (.int .i64 k) ∧ w'.cell? ⟨w.heap.size + 1 + 1, 0, none⟩ = some (.int .i64 p) ∧ w'.cell? ⟨w.heap.size + 1 + 1, 1, none⟩ = some (.int .i64 q)) (exact ⟨c0, c1, c2, c3, c4, c5⟩)
    (first
    | (go_at_call 80; first | ((with_reducible refine (C1.out _).mono ?_); rintro e w' ⟨rfl, hq⟩; have c0 := keepc hq c0; have c1 := keepc hq c1; have c2 := keepc hq c2; have c3 := keepc hq c3; have c4 := keepc hq c4; have c5 := keepc hq c5; have hB := hB.trans (hq.mono hB.size)) | ((with_reducible refine (C2.out _).mono ?_); rintro e w' ⟨rfl, hq⟩; have c0 := keepc hq c0; have c1 := keepc hq c1; have c2 := keepc hq c2; have c3 := keepc hq c3; have c4 := keepc hq c4; have c5 := keepc hq c5; have hB := hB.trans (hq.mono hB.size)))
    | (go_at_call 81; first | ((with_reducible refine (C3.out _).mono ?_); rintro e w' ⟨rfl, hq⟩; have c0 := keepc hq c0; have c1 := keepc hq c1; have c2 := keepc hq c2; have c3 := keepc hq c3; have c4 := keepc hq c4; have c5 := keepc hq c5; have hB := hB.trans (hq.mono hB.size)) | ((with_reducible refine (C4.out _).mono ?_); rintro e w' ⟨rfl, hq⟩; have c0 := keepc hq c0; have c1 := keepc hq c1; have c2 := keepc hq c2; have c3 := keepc hq c3; have c4 := keepc hq c4; have c5 := keepc hq c5; have hB := hB.trans (hq.mono hB.size)))
    | (go_at_call 82; (with_reducible refine (C5.out _).mono ?_); rintro e w' ⟨rfl, hq⟩; have c0 := keepc hq c0; have c1 := keepc hq c1; have c2 := keepc hq c2; have c3 := keepc hq c3; have c4 := keepc hq c4; have c5 := keepc hq c5; have hB := hB.trans (hq.mono hB.size)))
  all_goals
    go_wp2
    go_ret2
    exact ⟨rfl, hB⟩

end Go.Proofs.YtdbkjcnanffibaaGreat

namespace Go.Proofs.YtdbkjcnanffibaaGreat
open Go.RowKit
set_option linter.unusedVariables false

theorem fc_bd (f g : Int × Int) : -1 ≤ fc f g ∧ fc f g ≤ 1 := by
  have o : ∀ a b : Int, -1 ≤ ord a b ∧ ord a b ≤ 1 := fun a b => by unfold ord; repeat' split <;> omega
  unfold fc; split <;> exact o _ _
theorem ord_turn (p q : Int) : ord q p = -ord p q := by unfold ord; repeat' split <;> omega
theorem fc_turn (f g : Int × Int) : fc g f = -fc f g := by
  unfold fc
  by_cases h : f.2 = 0 ∨ g.2 = 0
  · rw [if_pos h, if_pos h.symm, ord_turn]
  · rw [if_neg h, if_neg (fun k => h k.symm), ord_turn]
/-- Is one share not above another one? -/
def Lsh (f g : Int × Int) : Prop := g.2 = 0 ∨ (0 < f.2 ∧ 0 < g.2 ∧ f.1 * g.2 ≤ g.1 * f.2)
theorem fc_le {f g : Int × Int} (hf : 0 ≤ f.2) (hg : 0 ≤ g.2) : fc f g ≤ 0 ↔ Lsh f g := by
  unfold fc Lsh
  by_cases h : f.2 = 0 ∨ g.2 = 0
  · rw [if_pos h]; unfold ord
    repeat' split <;> omega
  · rw [if_neg h]; unfold ord
    have h1 : 0 < f.2 ∧ 0 < g.2 ∧ g.2 ≠ 0 := by omega
    split
    · exact ⟨fun _ => Or.inr ⟨h1.1, h1.2.1, by omega⟩, fun _ => by omega⟩
    · split
      · refine ⟨fun k => by omega, fun k => ?_⟩
        rcases k with k | ⟨_, _, k⟩
        · exact absurd k h1.2.2
        · omega
      · exact ⟨fun _ => Or.inr ⟨h1.1, h1.2.1, by omega⟩, fun _ => by omega⟩
theorem le_trans' {f g h : Int × Int} (hf : 0 ≤ f.2) (hg : 0 ≤ g.2) (hh : 0 ≤ h.2) (h1 : Lsh f g) (h2 : Lsh g h) : Lsh f h := by
  unfold Lsh at *
  rcases h2 with k | ⟨g0, h0, k⟩
  · exact Or.inl k
  rcases h1 with j | ⟨f0, g0, j⟩
  · omega
  refine Or.inr ⟨f0, h0, ?_⟩
  have e1 : f.1 * h.2 * g.2 = f.1 * g.2 * h.2 := by rw [Int.mul_right_comm]
  have e2 : g.1 * f.2 * h.2 = g.1 * h.2 * f.2 := by rw [Int.mul_right_comm]
  have e3 : h.1 * g.2 * f.2 = h.1 * f.2 * g.2 := by rw [Int.mul_right_comm]
  have g1 := Int.mul_le_mul_of_nonneg_right j (show 0 ≤ h.2 by omega)
  have g2 := Int.mul_le_mul_of_nonneg_right k (show 0 ≤ f.2 by omega)
  exact Int.le_of_mul_le_mul_right (show f.1 * h.2 * g.2 ≤ h.1 * f.2 * g.2 by omega) g0
theorem le_total {f g : Int × Int} (hf : 0 ≤ f.2) (hg : 0 ≤ g.2) (h : ¬ Lsh f g) : Lsh g f := by
  rw [← fc_le hf hg] at h
  rw [← fc_le hg hf, fc_turn f g]
  omega
theorem le_refl' (f : Int × Int) (hf : 0 ≤ f.2) : Lsh f f := by
  unfold Lsh; by_cases h : f.2 = 0
  · exact Or.inl h
  · exact Or.inr ⟨by omega, by omega, Int.le_refl _⟩
theorem shr_le {a b p : Int} (ha : okp a) (hb : okp b) (hp : okp p) : Lsh (shr a p) (shr (a + b) p) := by
  unfold okp at ha hb hp
  unfold Lsh shr
  by_cases h : 0 < p
  · rw [if_pos h, if_pos h]
    exact Or.inr ⟨h, h, Int.mul_le_mul_of_nonneg_right (by simp only; omega) (by simp only; omega)⟩
  · rw [if_neg h, if_neg h]
    by_cases k : 0 < a
    · rw [if_pos k, if_pos (by omega)]; exact Or.inl rfl
    · rw [if_neg k]
      by_cases l : 0 < a + b
      · rw [if_pos l]; exact Or.inl rfl
      · rw [if_neg l]; exact Or.inr ⟨by decide, by decide, by decide⟩
theorem dom_ge {c m p q : Int} (oc : okp c) (om : okp m) (op : okp p) (oq : okp q) : Lsh (shr c p) (dom c m p q) ∧ Lsh (shr m q) (dom c m p q) := by
  have f1 := (shr_fr om oq).1.2.1
  have f2 := (shr_fr oc op).1.2.1
  unfold dom
  split
  · rename_i h
    refine ⟨le_total f1 f2 ?_, le_refl' _ f1⟩
    rw [← fc_le f1 f2]; omega
  · rename_i h
    exact ⟨le_refl' _ f2, (fc_le f1 f2).1 (by omega)⟩
theorem dom_le {a0 a1 b0 b1 p q : Int} (h0 : okp a0) (h1 : okp a1) (k0 : okp b0) (k1 : okp b1) (op : okp p) (oq : okp q) (s0 : okp (a0 + b0)) (s1 : okp (a1 + b1)) :
    Lsh (dom a0 a1 p q) (dom (a0 + b0) (a1 + b1) p q) := by
  have g := dom_ge s0 s1 op oq
  have d := (dom_fr ⟨s0, op⟩ ⟨s1, oq⟩).1.2.1
  have e1 := shr_le h0 k0 op
  have e2 := shr_le h1 k1 oq
  have z1 := (shr_fr h0 op).1.2.1
  have z2 := (shr_fr h1 oq).1.2.1
  have z3 := (shr_fr s0 op).1.2.1
  have z4 := (shr_fr s1 oq).1.2.1
  rw [dom]
  split
  · exact le_trans' z2 z4 d e2 g.2
  · exact le_trans' z1 z3 d e1 g.1
/-- By the same weight. -/
theorem le_scale {f g : Int × Int} {x : Int} (hx : 1 ≤ x) (h : Lsh f g) : Lsh (f.1, f.2 * x) (g.1, g.2 * x) := by
  unfold Lsh at *
  simp only
  rcases h with h | ⟨f0, g0, h⟩
  · left; rw [h, Int.zero_mul]
  · refine Or.inr ⟨Int.mul_pos f0 (by omega), Int.mul_pos g0 (by omega), ?_⟩
    rw [← Int.mul_assoc, ← Int.mul_assoc]
    exact Int.mul_le_mul_of_nonneg_right h (by omega)

theorem leok_swap (a b c d e f p q : Int) : leok d e f a b c p q = leok a b c d e f p q := by
  unfold leok
  simp only [List.all_cons, List.all_nil]
  cases okv (a, b) <;> cases okv (d, e) <;> cases okv (p, q) <;> cases okw c <;> cases okw f <;> rfl
theorem leok_out {c m x d k y p q : Int} (h : leok c m x d k y p q = true) : okv (c, m) = true ∧ okv (d, k) = true ∧ okv (p, q) = true ∧ (1 ≤ x ∧ x ≤ 1048576) ∧ (1 ≤ y ∧ y ≤ 1048576) := by
  unfold leok at h
  simp only [List.all_cons, List.all_nil, Bool.and_true, Bool.and_eq_true] at h
  obtain ⟨⟨h1, h2, h3⟩, h4, h5⟩ := h
  exact ⟨h1, h2, h3, by simpa [okw] using h4, by simpa [okw] using h5⟩
theorem less_all (c m x d k y p q : Int) : ∃ X G, ∀ w : World, Calls Tryz.prog 64 #[.agg #[.int .i64 c, .int .i64 m], .int .i64 x, .agg #[.int .i64 d, .int .i64 k], .int .i64 y, .agg #[.int .i64 p, .int .i64 q]] w fun e w' =>
      e = .returned (.tuple #[.int .i64 X, .int .i64 G]) ∧ Below w.heap.size w w' := by
  cases h : leok c m x d k y p q
  · exact ⟨0, 1, fun w => less_no c m x d k y p q h w⟩
  · exact ⟨_, 0, fun w => less_yes c m x d k y p q h w⟩
theorem lev_nn {c m p q x : Int} (h0 : okp c) (h1 : okp m) (op : okp p) (oq : okp q) (hx : 1 ≤ x) : 0 ≤ (dom c m p q).2 * x :=
  Int.mul_nonneg (dom_fr ⟨h0, op⟩ ⟨h1, oq⟩).1.2.1 (by omega)
/-- Is an amount, by its weight, one that a share is told of? -/
def sok (p q : Int) (a : Int × Int) (x : Int) : Prop := okv a = true ∧ 1 ≤ x ∧ okv (p, q) = true
theorem okv_pair {a b : Int} (h : okv (a, b) = true) : okp a ∧ okp b := okv_true h
theorem lev_turn (c m x d k y p q : Int) : lev d k y c m x p q = -lev c m x d k y p q := fc_turn _ _
theorem lev_bd (c m x d k y p q : Int) : -1 ≤ lev c m x d k y p q ∧ lev c m x d k y p q ≤ 1 := fc_bd _ _
theorem lev_nn' {c m p q x : Int} (h : sok p q (c, m) x) : 0 ≤ (dom c m p q).2 * x := by
  obtain ⟨h1, h2, h3⟩ := h
  exact lev_nn (okv_pair h1).1 (okv_pair h1).2 (okv_pair h3).1 (okv_pair h3).2 h2
theorem lev_trans {c m x d k y a b z p q : Int} (h1 : sok p q (c, m) x) (h2 : sok p q (d, k) y) (h3 : sok p q (a, b) z) (g1 : lev c m x d k y p q ≤ 0) (g2 : lev d k y a b z p q ≤ 0) : lev c m x a b z p q ≤ 0 :=
  (fc_le (lev_nn' h1) (lev_nn' h3)).2 (le_trans' (lev_nn' h1) (lev_nn' h2) (lev_nn' h3) ((fc_le (lev_nn' h1) (lev_nn' h2)).1 g1) ((fc_le (lev_nn' h2) (lev_nn' h3)).1 g2))
/-- More, by the same weight, is no less. -/
theorem lev_more {c m d k x p q : Int} (h1 : sok p q (c, m) x) (h2 : okv (d, k) = true) (h3 : okv (c + d, m + k) = true) : lev c m x (c + d) (m + k) x p q ≤ 0 := by
  obtain ⟨o1, o2, o3⟩ := h1
  have s2 : sok p q (c + d, m + k) x := ⟨h3, o2, o3⟩
  exact (fc_le (lev_nn' ⟨o1, o2, o3⟩) (lev_nn' s2)).2 (le_scale o2 (dom_le (okv_pair o1).1 (okv_pair o1).2 (okv_pair h2).1 (okv_pair h2).2 (okv_pair o3).1 (okv_pair o3).2 (okv_pair h3).1 (okv_pair h3).2))
end Go.Proofs.YtdbkjcnanffibaaGreat
