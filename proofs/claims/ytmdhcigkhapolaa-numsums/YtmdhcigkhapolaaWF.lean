/-
  Contracts: products and narrowing of the document's numbers; the document's sums, differences, products, comparisons.
-/
import Derived.Test.YtmdhcigkhapolaaWE
namespace Go.Proofs.Ytmdhcigkhapolaa
open Go.RowKit

theorem prod_abs {a b : Int} (ha : I64 a) (hb : I64 b) : (a * b).natAbs ≤ 85070591730234615865843651857942052864 := by
  rw [Int.natAbs_mul]
  exact Nat.mul_le_mul (natAbs_le ha) (natAbs_le hb)
theorem I128_of {n : Int} (h : n.natAbs ≤ 85070591730234615865843651857942052864) : I128 n := by unfold I128 hi; omega
theorem I128_mul {a b : Int} (ha : I64 a) (hb : I64 b) : I128 (a * b) := I128_of (prod_abs ha hb)
theorem I128_mul_neg {a b : Int} (ha : I64 a) (hb : I64 b) : I128 (-(a * b)) := I128_of (by rw [Int.natAbs_neg]; exact prod_abs ha hb)

theorem abs_same {a b : Int} (h : (a < 0) = (b < 0)) : ((a.natAbs * b.natAbs : Nat) : Int) = a * b := by
  by_cases ha : a < 0
  · have hb : b < 0 := by rw [← h]; exact ha
    have e1 : (a.natAbs : Int) = -a := by omega
    have e2 : (b.natAbs : Int) = -b := by omega
    rw [Int.natCast_mul, e1, e2, Int.neg_mul_neg]
  · have hb : ¬ b < 0 := by rw [← h]; exact ha
    have e1 : (a.natAbs : Int) = a := by omega
    have e2 : (b.natAbs : Int) = b := by omega
    rw [Int.natCast_mul, e1, e2]
theorem abs_diff {a b : Int} (h : (a < 0) ≠ (b < 0)) : ((a.natAbs * b.natAbs : Nat) : Int) = -(a * b) := by
  by_cases ha : a < 0
  · have hb : ¬ b < 0 := fun hb => h (by simp [ha, hb])
    have e1 : (a.natAbs : Int) = -a := by omega
    have e2 : (b.natAbs : Int) = b := by omega
    rw [Int.natCast_mul, e1, e2, Int.neg_mul]
  · have hb : b < 0 := Classical.byContradiction fun hb => h (by simp [ha, hb])
    have e1 : (a.natAbs : Int) = a := by omega
    have e2 : (b.natAbs : Int) = -b := by omega
    rw [Int.natCast_mul, e1, e2, Int.mul_neg]
theorem half_hl (p : Nat) : ((p / 18446744073709551616 : Nat) : Int) = hi (p : Int) ∧ ((p % 18446744073709551616 : Nat) : Int) = lo (p : Int) := by
  unfold hi lo; omega

theorem half_hl_any (x y : Nat) (hx : x ≤ 9223372036854775808) (hy : y ≤ 9223372036854775808) (w : World) :
    Calls Try.prog 80 #[.int .u64 x, .int .u64 y] w fun e w' => e = .returned (.agg #[.int .i64 (hi ((x * y : Nat) : Int)), .int .u64 (lo ((x * y : Nat) : Int))]) ∧ Below w.heap.size w w' := by
  have h := half_any x y hx hy w
  rw [(half_hl (x * y)).1, (half_hl (x * y)).2] at h
  exact h

theorem minus0_any (b : Int) (hb : I128 b) (hn : I128 (-b)) (w : World) :
    Calls Try.prog 82 #[.agg #[.int .i64 0, .int .u64 0], .agg #[.int .i64 (hi b), .int .u64 (lo b)]] w fun e w' =>
      e = .returned (.agg #[.int .i64 (hi (-b)), .int .u64 (lo (-b))]) ∧ Below w.heap.size w w' := by
  have h := minus_any 0 b hb (by rw [Int.zero_sub]; exact hn) hn w
  rw [hl_zero.1, hl_zero.2, Int.zero_sub] at h
  exact h

set_option maxHeartbeats 1000000 in
theorem times_any (a b : Int) (ha : I64 a) (hb : I64 b) (w : World) :
    Calls Try.prog 76 #[.int .i64 a, .int .i64 b] w fun e w' =>
      e = .returned (.agg #[.int .i64 (hi (a * b)), .int .u64 (lo (a * b))]) ∧ Below w.heap.size w w' := by
  have ba := natAbs_le ha
  have bb := natAbs_le hb
  by_cases hs : (a < 0) = (b < 0)
  · have t : (decide (a < 0) == decide (b < 0)) = true := by simp [hs]
    have E := hid (abs_same hs)
    clear hs
    go_enter Try.func76, Try.ntmps76
    go_wp2_with fail
    refine (rsize_any a ha _).mono ?_
    rintro e w1 ⟨rfl, rfl⟩
    go_wp2_with fail
    refine (rsize_any b hb _).mono ?_
    rintro e w1 ⟨rfl, rfl⟩
    go_wp2_with fail
    refine (half_hl_any a.natAbs b.natAbs ba bb _).mono ?_
    rintro e w1 ⟨rfl, hq⟩
    have c0 := keepc hq (a := ⟨w.heap.size, 0, none⟩) (v := .int .i64 0) (by simp [go_sem])
    have c1 := keepc hq (a := ⟨w.heap.size, 1, none⟩) (v := .int .u64 0) (by simp [go_sem])
    have f0 := keepf hq (a := ⟨w.heap.size, 0, none⟩) (v := .int .i64 0) (by simp [go_sem]) (by simp [go_sem])
    have f1 := keepf hq (a := ⟨w.heap.size, 1, none⟩) (v := .int .u64 0) (by simp [go_sem]) (by simp [go_sem])
    have hB1 : Below w.heap.size w w1 := Below.trans (by repeat (first | exact Below.refl _ _ | assumption | refine Below.alloc ?_ (by simp <;> omega) _ | refine Below.setCell ?_ (by simp <;> omega) _ | refine Below.drew ?_ | refine below_drewN ?_ _)) (hq.mono (by simp <;> omega))
    have hlt := cell_lt c0
    simp only at hlt
    rw [E.out]
    go_wp2
    exact bodyPost_ret (v := .agg #[.int .i64 (hi (a * b)), .int .u64 (lo (a * b))]) (by simp [results, Try.results76, go_sem, c0, c1, hlt]) rfl ⟨rfl, ((hB1.setCell (by simp <;> omega) _).setCell (by simp <;> omega) _).alloc (by simp <;> omega) _⟩
  · have t : (decide (a < 0) == decide (b < 0)) = false := by simpa using hs
    have E := hid (abs_diff hs)
    clear hs
    go_enter Try.func76, Try.ntmps76
    go_wp2_with fail
    refine (rsize_any a ha _).mono ?_
    rintro e w1 ⟨rfl, rfl⟩
    go_wp2_with fail
    refine (rsize_any b hb _).mono ?_
    rintro e w1 ⟨rfl, rfl⟩
    go_wp2_with fail
    refine (half_hl_any a.natAbs b.natAbs ba bb _).mono ?_
    rintro e w1 ⟨rfl, hq⟩
    have c0 := keepc hq (a := ⟨w.heap.size, 0, none⟩) (v := .int .i64 0) (by simp [go_sem])
    have c1 := keepc hq (a := ⟨w.heap.size, 1, none⟩) (v := .int .u64 0) (by simp [go_sem])
    have f0 := keepf hq (a := ⟨w.heap.size, 0, none⟩) (v := .int .i64 0) (by simp [go_sem]) (by simp [go_sem])
    have f1 := keepf hq (a := ⟨w.heap.size, 1, none⟩) (v := .int .u64 0) (by simp [go_sem]) (by simp [go_sem])
    have hB1 : Below w.heap.size w w1 := Below.trans (by repeat (first | exact Below.refl _ _ | assumption | refine Below.alloc ?_ (by simp <;> omega) _ | refine Below.setCell ?_ (by simp <;> omega) _ | refine Below.drew ?_ | refine below_drewN ?_ _)) (hq.mono (by simp <;> omega))
    have hlt := cell_lt c0
    simp only at hlt
    rw [E.out]
    go_wp2_with fail
    refine (minus0_any (-(a * b)) (I128_mul_neg ha hb) (by rw [Int.neg_neg]; exact I128_mul ha hb) _).mono ?_
    rintro e w2 ⟨rfl, hq2⟩
    rw [Int.neg_neg]
    have d0 := keepc hq2 (a := ⟨w.heap.size, 0, none⟩) (v := .int .i64 0) (by simp [go_sem, c0, hlt])
    have d1 := keepc hq2 (a := ⟨w.heap.size, 1, none⟩) (v := .int .u64 0) (by simp [go_sem, c1, hlt])
    have g0 := keepf hq2 (a := ⟨w.heap.size, 0, none⟩) (v := .int .i64 0) (by simp [go_sem, c0, hlt]) (by simp [go_sem, f0, hlt])
    have g1 := keepf hq2 (a := ⟨w.heap.size, 1, none⟩) (v := .int .u64 0) (by simp [go_sem, c1, hlt]) (by simp [go_sem, f1, hlt])
    have hB2 : Below w.heap.size w w2 := Below.trans (hB1.alloc (by omega) _) (hq2.mono (by simp <;> omega))
    clear c0 c1 f0 f1
    go_wp2
    exact bodyPost_ret (v := .agg #[.int .i64 (hi (a * b)), .int .u64 (lo (a * b))]) (by simp [results, Try.results76, go_sem, d0, d1]) rfl ⟨rfl, (hB2.setCell (by simp <;> omega) _).setCell (by simp <;> omega) _⟩

theorem of_at {x : Int} (a : Int) (e : x = a) (ha : I64 a) (w : World) :
    Calls Try.prog 36 #[.int .i64 x] w fun e w' => e = .returned (.agg #[.int .i64 (hi a), .int .u64 (lo a)]) ∧ Below w.heap.size w w' := by
  subst e; exact of_any x ha w

theorem lo_wrap {n : Int} (h1 : -9223372036854775808 ≤ n) (h2 : n ≤ 9223372036854775807) : IntKind.i64.wrap (lo n) = n := by
  rw [IntKind.wrap_i64]; unfold lo; omega
theorem lo_wrap' {n : Int} (h1 : -9223372036854775808 ≤ n) (h2 : n ≤ 9223372036854775807) : wrap64 (lo n) = n := by
  unfold wrap64 lo; omega
theorem lo_wrap_I64 (n : Int) : I64 (IntKind.i64.wrap (lo n)) := by
  rw [IntKind.wrap_i64]; unfold I64 lo; omega
theorem lo_wrap_ne {n : Int} (h : ¬ (-9223372036854775808 ≤ n ∧ n ≤ 9223372036854775807)) : hi (IntKind.i64.wrap (lo n)) ≠ hi n := by
  rw [IntKind.wrap_i64]; unfold hi lo; omega

set_option maxHeartbeats 1000000 in
theorem rnarrow_any (n : Int) (w : World) :
    Calls Try.prog 37 #[.agg #[.int .i64 (hi n), .int .u64 (lo n)]] w fun e w' =>
      e = .returned (.tuple #[.int .i64 (nv n), .int .i64 (ne n)]) ∧ Below w.heap.size w w' := by
  by_cases hr : -9223372036854775808 ≤ n ∧ n ≤ 9223372036854775807
  · obtain ⟨r1, r2⟩ := hr
    have E := hid (lo_wrap r1 r2)
    go_enter Try.func37, Try.ntmps37
    go_wp2_with fail
    go_region_with (go_at_call 36; refine (of_at n E.out ⟨r1, r2⟩ _).mono ?_; rintro e w1 ⟨rfl, hq⟩; have hB1 : Below w.heap.size w w1 := Below.trans (by repeat (first | exact Below.refl _ _ | assumption | refine Below.alloc ?_ (by simp <;> omega) _ | refine Below.setCell ?_ (by simp <;> omega) _ | refine Below.drew ?_ | refine below_drewN ?_ _)) (hq.mono (by simp <;> omega)); have c0 := keepc hq (a := ⟨w.heap.size, 0, none⟩) (v := .int .i64 (hi n)) (by simp [go_sem]); have c1 := keepc hq (a := ⟨w.heap.size, 1, none⟩) (v := .int .u64 (lo n)) (by simp [go_sem]))
    all_goals
      go_wp2
      go_ret2
      exact ⟨ret2 ((lo_wrap' r1 r2).trans (nv_in r1 r2).symm) (ne_in r1 r2).symm, hB1⟩
  · have E := hid (lo_wrap_ne hr)
    have E1 : Hid (nv n = 0) := by unfold nv; rw [if_neg hr]; rfl
    have E2 : Hid (ne n = 2) := by unfold ne; rw [if_neg hr]; rfl
    have t : (hi (IntKind.i64.wrap (lo n)) == hi n) = false := by simpa using lo_wrap_ne hr
    clear hr
    go_enter Try.func37, Try.ntmps37
    go_wp2_with fail
    go_region_with (go_at_call 36; refine (of_at _ rfl (lo_wrap_I64 n) _).mono ?_; rintro e w1 ⟨rfl, hq⟩; have hB1 : Below w.heap.size w w1 := Below.trans (by repeat (first | exact Below.refl _ _ | assumption | refine Below.alloc ?_ (by simp <;> omega) _ | refine Below.setCell ?_ (by simp <;> omega) _ | refine Below.drew ?_ | refine below_drewN ?_ _)) (hq.mono (by simp <;> omega)); have c0 := keepc hq (a := ⟨w.heap.size, 0, none⟩) (v := .int .i64 (hi n)) (by simp [go_sem]); have c1 := keepc hq (a := ⟨w.heap.size, 1, none⟩) (v := .int .u64 (lo n)) (by simp [go_sem]))
    all_goals
      go_wp2
      go_ret2
      exact ⟨ret2 E1.out.symm E2.out.symm, hB1⟩

end Go.Proofs.Ytmdhcigkhapolaa
