/-
  Contracts: a product divided (given what math/bits.Div64 answers), and where the high word is 0.
-/
import Derived.Test.YtmdhcigkhapolaaWJ
namespace Go.Proofs.Ytmdhcigkhapolaa
open Go.RowKit

theorem floor_unique {n c k : Int} (hc : 0 < c) (h1 : k * c ≤ n) (h2 : n < (k + 1) * c) : n / c = k := by
  have a := (Int.le_ediv_iff_mul_le hc).2 h1
  have b := (Int.ediv_lt_iff_lt_mul hc).2 h2
  omega

/-- MulDiv's two answers. -/
def mdv (a b c : Int) : Int := if c < 1 then 0 else nv (a * b / c)
def mde (a b c : Int) : Int := if c < 1 then 1 else ne (a * b / c)

theorem md_over {n c : Int} (hc : 0 < c) (h : c ≤ hi (n.natAbs : Int)) : nv (n / c) = 0 ∧ ne (n / c) = 2 := by
  have l := lo_bd (n.natAbs : Int)
  have e := hilo (n.natAbs : Int)
  by_cases hn : n < 0
  · have : n / c ≤ -18446744073709551616 := by
      apply Int.le_of_lt_add_one
      apply (Int.ediv_lt_iff_lt_mul hc).2
      have : (n.natAbs : Int) = -n := by omega
      have : c * 18446744073709551616 ≤ hi (n.natAbs : Int) * 18446744073709551616 := by omega
      omega
    exact ⟨nv_lo (by omega), ne_lo (by omega)⟩
  · have : 18446744073709551616 ≤ n / c := by
      apply (Int.le_ediv_iff_mul_le hc).2
      have : (n.natAbs : Int) = n := by omega
      omega
    exact ⟨nv_hi (by omega), ne_hi (by omega)⟩

theorem md_lt {n c : Int} (hc : 0 < c) (h : hi (n.natAbs : Int) < c) : 0 ≤ (n.natAbs : Int) / c ∧ (n.natAbs : Int) / c ≤ 18446744073709551615 := by
  have l := lo_bd (n.natAbs : Int)
  have e := hilo (n.natAbs : Int)
  refine ⟨Int.ediv_nonneg (by omega) (by omega), ?_⟩
  apply Int.le_of_lt_add_one
  apply (Int.ediv_lt_iff_lt_mul hc).2
  omega

theorem md_pos {n c : Int} (hn : ¬ n < 0) : (n.natAbs : Int) / c = n / c := by
  have : (n.natAbs : Int) = n := by omega
  rw [this]
theorem md_neg0 {n c : Int} (hc : 0 < c) (hn : n < 0) (hr : (n.natAbs : Int) % c = 0) : -((n.natAbs : Int) / c) = n / c := by
  have e := Int.mul_ediv_add_emod (n.natAbs : Int) c
  rw [hr] at e
  symm
  apply floor_unique hc
  · rw [Int.neg_mul, Int.mul_comm]; omega
  · rw [Int.add_mul, Int.neg_mul, Int.mul_comm]; omega
theorem md_neg1 {n c : Int} (hc : 0 < c) (hn : n < 0) (hr : 0 < (n.natAbs : Int) % c) : -((n.natAbs : Int) / c + 1) = n / c := by
  have e := Int.mul_ediv_add_emod (n.natAbs : Int) c
  have r := Int.emod_lt_of_pos (n.natAbs : Int) hc
  symm
  apply floor_unique hc
  · rw [Int.neg_mul, Int.add_mul, Int.mul_comm]; omega
  · rw [Int.add_mul, Int.neg_mul, Int.add_mul, Int.mul_comm _ c]; omega

theorem hl_small {q : Int} (h0 : 0 ≤ q) (h1 : q ≤ 18446744073709551615) : hi q = 0 ∧ lo q = q := by unfold hi lo; omega
theorem hi_succ {q : Int} (h0 : 0 ≤ q) (h1 : q ≤ 18446744073709551615) : hi (q + 1) ≤ 18446744073709551615 := by unfold hi; omega

/-- What a division of 128 bits by 64 is to answer. -/
def DivOk (m c : Int) : Prop := ∀ w : World, Calls Try.prog 53 #[.int .u64 (hi m), .int .u64 (lo m), .int .u64 c] w fun e w' => e = .returned (.tuple #[.int .u64 (m / c), .int .u64 (m % c)]) ∧ Below w.heap.size w w'

theorem narrow_at (n : Int) {s : Bool} {m h l : Int} (h0 : 0 ≤ m) (e : sgn s m = n) (e1 : h = hi m) (e2 : l = lo m) (w : World) :
    Calls Try.prog 34 #[.agg #[.bool s, .int .u64 h, .int .u64 l]] w fun e w' => e = .returned (.tuple #[.int .i64 (nv n), .int .i64 (ne n)]) ∧ Below w.heap.size w w' := by
  subst e1 e2 e; exact narrow_any s m h0 w

set_option maxHeartbeats 1000000 in
theorem muldiv_small (a b c : Int) (hc : c < 1) (w : World) :
    Calls Try.prog 28 #[.int .i64 a, .int .i64 b, .int .i64 c] w fun e w' => e = .returned (.tuple #[.int .i64 (mdv a b c), .int .i64 (mde a b c)]) ∧ Below w.heap.size w w' := by
  have E1 : Hid (mdv a b c = 0) := by unfold mdv; rw [if_pos hc]; rfl
  have E2 : Hid (mde a b c = 1) := by unfold mde; rw [if_pos hc]; rfl
  go_enter Try.func28, Try.ntmps28
  go_wp2
  go_ret2
  exact ⟨ret2 E1.out.symm E2.out.symm, Below.refl _ _⟩

set_option maxHeartbeats 1000000 in
theorem muldiv_over (a b c : Int) (ha : I64 a) (hb : I64 b) (hc : 1 ≤ c) (hc' : c ≤ 9223372036854775807) (h : c ≤ hi ((a * b).natAbs : Int)) (w : World) :
    Calls Try.prog 28 #[.int .i64 a, .int .i64 b, .int .i64 c] w fun e w' => e = .returned (.tuple #[.int .i64 (mdv a b c), .int .i64 (mde a b c)]) ∧ Below w.heap.size w w' := by
  have E := md_over (n := a * b) (c := c) (by omega) h
  have E1 : Hid (mdv a b c = 0) := by unfold mdv; rw [if_neg (by omega)]; exact E.1
  have E2 : Hid (mde a b c = 2) := by unfold mde; rw [if_neg (by omega)]; exact E.2
  clear E
  have t : decide (c ≤ hi ((a * b).natAbs : Int)) = true := by simp; omega
  go_enter Try.func28, Try.ntmps28
  go_wp2_with fail
  refine (multiply_any a b ha hb _).mono ?_
  rintro e w1 ⟨rfl, h1⟩
  go_wp2
  go_ret2
  exact ⟨ret2 E1.out.symm E2.out.symm, h1.alloc h1.size _⟩

set_option maxHeartbeats 1000000 in
theorem muldiv_of (a b c : Int) (ha : I64 a) (hb : I64 b) (hc : 1 ≤ c) (hc' : c ≤ 9223372036854775807) (h : hi ((a * b).natAbs : Int) < c) (D : DivOk ((a * b).natAbs : Int) c) (w : World) :
    Calls Try.prog 28 #[.int .i64 a, .int .i64 b, .int .i64 c] w fun e w' => e = .returned (.tuple #[.int .i64 (mdv a b c), .int .i64 (mde a b c)]) ∧ Below w.heap.size w w' := by
  have c0 : 0 < c := by omega
  have E1 : Hid (mdv a b c = nv (a * b / c)) := by unfold mdv; rw [if_neg (by omega)]; rfl
  have E2 : Hid (mde a b c = ne (a * b / c)) := by unfold mde; rw [if_neg (by omega)]; rfl
  have t : decide (c ≤ hi ((a * b).natAbs : Int)) = false := by simp; omega
  obtain ⟨q0, q1⟩ := md_lt (n := a * b) c0 h
  by_cases hn : a * b < 0
  · have tn : decide (a * b < 0) = true := by simp; omega
    by_cases hr : 0 < ((a * b).natAbs : Int) % c
    · have tr : decide (0 < ((a * b).natAbs : Int) % c) = true := by simp only [decide_eq_true_eq]; exact hr
      have X : Hid (sgn true (((a * b).natAbs : Int) / c + 1) = a * b / c) := md_neg1 c0 hn hr
      go_enter Try.func28, Try.ntmps28
      go_wp2_with fail
      refine (multiply_any a b ha hb _).mono ?_
      rintro e w1 ⟨rfl, h1⟩
      go_wp2_with fail
      refine (D _).mono ?_
      rintro e w2 ⟨rfl, h2⟩
      have p0 := keepc h2 (a := ⟨w1.heap.size, 0, none⟩) (v := .bool true) (by simp [go_sem])
      have hB2 : Below w.heap.size w w2 := (h1.alloc h1.size _).trans (h2.mono (by simp; have := h1.size; omega))
      go_wp2_with fail
      refine (wplus_at (((a * b).natAbs : Int) / c) (hl_small q0 q1).1.symm (hl_small q0 q1).2.symm (by omega) (by omega) (by rw [(hl_small q0 q1).1]; omega) (hi_succ q0 q1) _).mono ?_
      rintro e w3 ⟨rfl, h3⟩
      have c0' := keepc h3 (a := ⟨w2.heap.size, 0, none⟩) (v := .bool true) (by simp [go_sem])
      have f1 := keepf h3 (a := ⟨w2.heap.size, 1, none⟩) (v := .int .u64 0) (by simp [go_sem]) (by simp [go_sem])
      have c1 := keepc h3 (a := ⟨w2.heap.size, 1, none⟩) (v := .int .u64 0) (by simp [go_sem])
      have f2 := keepf h3 (a := ⟨w2.heap.size, 1 + 1, none⟩) (v := .int .u64 (((a * b).natAbs : Int) / c)) (by simp [go_sem]) (by simp [go_sem])
      have c2 := keepc h3 (a := ⟨w2.heap.size, 1 + 1, none⟩) (v := .int .u64 (((a * b).natAbs : Int) / c)) (by simp [go_sem])
      have hB3 : Below w.heap.size w w3 := (hB2.alloc hB2.size _).trans (h3.mono (by simp; have := hB2.size; omega))
      go_wp2_with fail
      refine (narrow_at (a * b / c) (m := ((a * b).natAbs : Int) / c + 1) (by omega) X.out rfl rfl _).mono ?_
      rintro e w4 ⟨rfl, h4⟩
      go_wp2
      go_ret2
      exact ⟨ret2 E1.out.symm E2.out.symm, ((hB3.setCell (by have := hB2.size; simp; omega) _).setCell (by have := hB2.size; simp; omega) _).trans (h4.mono (by simp; have := hB3.size; omega))⟩
    · have tr : decide (0 < ((a * b).natAbs : Int) % c) = false := by simp only [decide_eq_false_iff_not]; exact hr
      have r0 := Int.emod_nonneg ((a * b).natAbs : Int) (show c ≠ 0 by omega)
      have X : Hid (sgn true (((a * b).natAbs : Int) / c) = a * b / c) := md_neg0 c0 hn (by omega)
      go_enter Try.func28, Try.ntmps28
      go_wp2_with fail
      refine (multiply_any a b ha hb _).mono ?_
      rintro e w1 ⟨rfl, h1⟩
      go_wp2_with fail
      refine (D _).mono ?_
      rintro e w2 ⟨rfl, h2⟩
      have p0 := keepc h2 (a := ⟨w1.heap.size, 0, none⟩) (v := .bool true) (by simp [go_sem])
      have hB2 : Below w.heap.size w w2 := (h1.alloc h1.size _).trans (h2.mono (by simp; have := h1.size; omega))
      go_wp2_with fail
      refine (narrow_at (a * b / c) (m := ((a * b).natAbs : Int) / c) q0 X.out (hl_small q0 q1).1.symm (hl_small q0 q1).2.symm _).mono ?_
      rintro e w4 ⟨rfl, h4⟩
      go_wp2
      go_ret2
      exact ⟨ret2 E1.out.symm E2.out.symm, (hB2.alloc hB2.size _).trans (h4.mono (by simp; have := hB2.size; omega))⟩
  · have tn : decide (a * b < 0) = false := by simp; omega
    have X : Hid (sgn false (((a * b).natAbs : Int) / c) = a * b / c) := md_pos hn
    by_cases hr : 0 < ((a * b).natAbs : Int) % c
    · have tr : decide (0 < ((a * b).natAbs : Int) % c) = true := by simp only [decide_eq_true_eq]; exact hr
      go_enter Try.func28, Try.ntmps28
      go_wp2_with fail
      refine (multiply_any a b ha hb _).mono ?_
      rintro e w1 ⟨rfl, h1⟩
      go_wp2_with fail
      refine (D _).mono ?_
      rintro e w2 ⟨rfl, h2⟩
      have p0 := keepc h2 (a := ⟨w1.heap.size, 0, none⟩) (v := .bool false) (by simp [go_sem])
      have hB2 : Below w.heap.size w w2 := (h1.alloc h1.size _).trans (h2.mono (by simp; have := h1.size; omega))
      go_wp2_with fail
      refine (narrow_at (a * b / c) (m := ((a * b).natAbs : Int) / c) q0 X.out (hl_small q0 q1).1.symm (hl_small q0 q1).2.symm _).mono ?_
      rintro e w4 ⟨rfl, h4⟩
      go_wp2
      go_ret2
      exact ⟨ret2 E1.out.symm E2.out.symm, (hB2.alloc hB2.size _).trans (h4.mono (by simp; have := hB2.size; omega))⟩
    · have tr : decide (0 < ((a * b).natAbs : Int) % c) = false := by simp only [decide_eq_false_iff_not]; exact hr
      go_enter Try.func28, Try.ntmps28
      go_wp2_with fail
      refine (multiply_any a b ha hb _).mono ?_
      rintro e w1 ⟨rfl, h1⟩
      go_wp2_with fail
      refine (D _).mono ?_
      rintro e w2 ⟨rfl, h2⟩
      have p0 := keepc h2 (a := ⟨w1.heap.size, 0, none⟩) (v := .bool false) (by simp [go_sem])
      have hB2 : Below w.heap.size w w2 := (h1.alloc h1.size _).trans (h2.mono (by simp; have := h1.size; omega))
      go_wp2_with fail
      refine (narrow_at (a * b / c) (m := ((a * b).natAbs : Int) / c) q0 X.out (hl_small q0 q1).1.symm (hl_small q0 q1).2.symm _).mono ?_
      rintro e w4 ⟨rfl, h4⟩
      go_wp2
      go_ret2
      exact ⟨ret2 E1.out.symm E2.out.symm, (hB2.alloc hB2.size _).trans (h4.mono (by simp; have := hB2.size; omega))⟩

set_option maxHeartbeats 1000000 in
theorem div64_0 (m c : Int) (hm : 0 ≤ m) (hm' : m ≤ 18446744073709551615) (hc : 1 ≤ c) (hc' : c ≤ 9223372036854775807) : DivOk m c := by
  intro w
  obtain ⟨z1, z2⟩ := hl_small hm hm'
  rw [z1, z2]
  clear z1 z2
  have t1 : (c == 0) = false := by simp; omega
  have t2 : decide (c ≤ 0) = false := by simp; omega
  go_enter Try.func53, Try.ntmps53
  go_wp2_with fail
  go_quiet (fail)
  go_wp2
  go_ret2
  exact ⟨rfl, below_drewN (Below.refl _ _) _⟩

theorem mdv_awake : mdv (-7) 1 2 = -4 ∧ mde (-7) 1 2 = 0 := by decide
theorem cmp_awake : cmpv 1 3 2 6 = 0 ∧ cmpe 3 6 = 0 := by decide
theorem gcd_awake : gcdv 12 (-18) = 6 := by decide
theorem add_awake : nv (2 + 3) = 5 ∧ ne (2 + 3) = 0 := by decide

theorem muldiv_awake (w : World) : Calls Try.prog 28 #[.int .i64 (-7), .int .i64 1, .int .i64 2] w fun e w' => e = .returned (.tuple #[.int .i64 (-4), .int .i64 0]) ∧ Below w.heap.size w w' := by
  have h := muldiv_of (-7) 1 2 (by unfold I64; omega) (by unfold I64; omega) (by omega) (by omega) (by decide) (div64_0 _ _ (by decide) (by decide) (by omega) (by omega)) w
  rw [mdv_awake.1, mdv_awake.2] at h
  exact h

set_option maxHeartbeats 1000000 in
theorem awake_any (w : World) : Calls Try.prog 12 #[] w fun e w' => e = .returned (.bool true) ∧ Below w.heap.size w w' := by
  have hg := fun w => gcd_any 12 (-18) (by unfold I64; omega) (by unfold I64; omega) w
  have hc := fun w => cmp_any 1 3 2 6 (by unfold I64; omega) (by unfold I64; omega) (by unfold I64; omega) (by unfold I64; omega) w
  have ha := fun w => add_any 2 3 (by unfold I64; omega) (by unfold I64; omega) w
  rw [gcd_awake] at hg
  rw [cmp_awake.1, cmp_awake.2] at hc
  rw [add_awake.1, add_awake.2] at ha
  have HG := hid hg
  have HC := hid hc
  have HA := hid ha
  clear ha hc hg
  go_enter Try.func12, Try.ntmps12
  go_wp2_with fail
  refine (HA.out _).mono ?_
  rintro e w1 ⟨rfl, rfl⟩
  go_wp2_with fail
  refine (muldiv_awake _).mono ?_
  rintro e w2 ⟨rfl, h2⟩
  go_wp2_with fail
  refine (HC.out _).mono ?_
  rintro e w3 ⟨rfl, h3⟩
  go_wp2_with fail
  refine (HG.out _).mono ?_
  rintro e w4 ⟨rfl, h4⟩
  have q3 := h2.trans (h3.mono h2.size)
  have q4 := q3.trans (h4.mono q3.size)
  go_wp2
  go_ret
  exact ⟨rfl, q4⟩

end Go.Proofs.Ytmdhcigkhapolaa
