/- NumOrder: for all fractions a, b, c of int64 the law's call returns true: Cmp stands in one order. No further conditions. -/
import Derived.Test.YtmajoognpggcpaaWK
import Derived.Test.YtmajoognpggcpaaOpen
namespace Go.Proofs.Ytmajoognpggcpaa.numOrder
open Go.ChangeShapes Go.WideShapes Go.ChangeAt Go.RowKit
set_option linter.unusedVariables false

theorem ord_bd (p q : Int) : -1 ≤ ord p q ∧ ord p q ≤ 1 := by unfold ord; repeat' split <;> omega
theorem ord_turn (p q : Int) : ord q p = -ord p q := by unfold ord; repeat' split <;> omega
theorem ord_pos {p q : Int} : 0 < ord p q ↔ q < p := by unfold ord; repeat' split <;> omega
theorem ord_zero {p q : Int} : ord p q = 0 ↔ p = q := by unfold ord; repeat' split <;> omega

/-- What isn't above one that isn't above a third isn't above that; and is alike just where both are. -/
theorem trans_le {a0 a1 b0 b1 c0 c1 : Int} (ha : 1 ≤ a1) (hb : 1 ≤ b1) (hc : 1 ≤ c1) (h1 : a0 * b1 ≤ b0 * a1) (h2 : b0 * c1 ≤ c0 * b1) :
    a0 * c1 ≤ c0 * a1 ∧ (a0 * c1 = c0 * a1 ↔ (a0 * b1 = b0 * a1 ∧ b0 * c1 = c0 * b1)) := by
  have e1 : a0 * c1 * b1 = a0 * b1 * c1 := by rw [Int.mul_right_comm]
  have e2 : b0 * a1 * c1 = b0 * c1 * a1 := by rw [Int.mul_right_comm]
  have e3 : c0 * b1 * a1 = c0 * a1 * b1 := by rw [Int.mul_right_comm]
  have g1 := Int.mul_le_mul_of_nonneg_right h1 (show 0 ≤ c1 by omega)
  have g2 := Int.mul_le_mul_of_nonneg_right h2 (show 0 ≤ a1 by omega)
  have g3 : a0 * c1 * b1 ≤ c0 * a1 * b1 := by omega
  refine ⟨Int.le_of_mul_le_mul_right g3 (by omega), fun h => ?_, fun ⟨h, k⟩ => ?_⟩
  · have g4 : a0 * c1 * b1 = c0 * a1 * b1 := by rw [h]
    exact ⟨Int.eq_of_mul_eq_mul_right (show c1 ≠ 0 by omega) (by omega), Int.eq_of_mul_eq_mul_right (show a1 ≠ 0 by omega) (by omega)⟩
  · have k1 : a0 * b1 * c1 = b0 * a1 * c1 := by rw [h]
    have k2 : b0 * c1 * a1 = c0 * b1 * a1 := by rw [k]
    exact Int.eq_of_mul_eq_mul_right (show b1 ≠ 0 by omega) (by omega)

theorem cmp_ok (a b c d : Int) (ha : I64 a) (hb : I64 b) (hc : I64 c) (hd : I64 d) (h1 : 1 ≤ b) (h2 : 1 ≤ d) (w : World) :
    Calls Try.prog 26 #[.int .i64 a, .int .i64 b, .int .i64 c, .int .i64 d] w fun e w' => e = .returned (.tuple #[.int .i64 (ord (a * d) (c * b)), .int .i64 0]) ∧ Below w.heap.size w w' := by
  have h := cmp_any a b c d ha hb hc hd w
  rw [show cmpv a b c d = ord (a * d) (c * b) by unfold cmpv; rw [if_neg (by omega)], show cmpe b d = 0 by unfold cmpe; rw [if_neg (by omega)]] at h
  exact h

/-- Cmp at four numbers answers X. -/
def Ans (a b c d X : Int) : Prop := ∀ w : World, Calls Try.prog 26 #[.int .i64 a, .int .i64 b, .int .i64 c, .int .i64 d] w fun e w' => e = .returned (.tuple #[.int .i64 X, .int .i64 0]) ∧ Below w.heap.size w w'

set_option maxHeartbeats 4000000 in
theorem main (a0 a1 b0 b1 c0 c1 X Z W : Int) (w : World) (g1 : 1 ≤ a1) (g2 : 1 ≤ b1) (g3 : 1 ≤ c1)
    (CX : Hid (Ans a0 a1 b0 b1 X)) (CY : Hid (Ans b0 b1 a0 a1 (-X))) (CZ : Hid (Ans b0 b1 c0 c1 Z)) (CW : Hid (Ans a0 a1 c0 c1 W))
    (x1 : -1 ≤ X) (x2 : X ≤ 1) (z1 : -1 ≤ Z) (z2 : Z ≤ 1) (k1 : -1 ≤ W) (k2 : W ≤ 1) (hw : X ≤ 0 → Z ≤ 0 → W ≤ 0 ∧ (W = 0 ↔ (X = 0 ∧ Z = 0))) :
    Calls Try.prog 9 #[.agg #[.int .i64 a0, .int .i64 a1], .agg #[.int .i64 b0, .int .i64 b1], .agg #[.int .i64 c0, .int .i64 c1]] w fun e w' => e = .returned (.bool true) ∧ Below w.heap.size w w' := by
  have tx : (X != X) = false := by simp
  by_cases hx : 0 < X
  · have t1 : decide (0 < X) = true := by simp; omega
    clear hw
    go_enter Try.func9, Try.ntmps9
    go_wp2_with fail
    refine (awake_any _).mono ?_
    rintro e w1 ⟨rfl, h1⟩
    have x1a0 := keepc h1 (a := ⟨w.heap.size, 0, none⟩) (v := .int .i64 a0) (by simp [go_sem])
    have x1a1 := keepc h1 (a := ⟨w.heap.size, 1, none⟩) (v := .int .i64 a1) (by simp [go_sem])
    have x1b0 := keepc h1 (a := ⟨w.heap.size + 1, 0, none⟩) (v := .int .i64 b0) (by simp [go_sem])
    have x1b1 := keepc h1 (a := ⟨w.heap.size + 1, 1, none⟩) (v := .int .i64 b1) (by simp [go_sem])
    have x1c0 := keepc h1 (a := ⟨w.heap.size + 1 + 1, 0, none⟩) (v := .int .i64 c0) (by simp [go_sem])
    have x1c1 := keepc h1 (a := ⟨w.heap.size + 1 + 1, 1, none⟩) (v := .int .i64 c1) (by simp [go_sem])
    have q1 : Below w.heap.size w w1 := Below.trans (by repeat (first | exact Below.refl _ _ | assumption | refine Below.alloc ?_ (by simp <;> omega) _ | refine Below.setCell ?_ (by simp <;> omega) _ | refine Below.drew ?_ | refine below_drewN ?_ _)) (h1.mono (by simp <;> omega))
    go_wp2_with fail
    refine (CX.out _).mono ?_
    rintro e w2 ⟨rfl, h2⟩
    have x2a0 := keepc h2 x1a0; have x2a1 := keepc h2 x1a1; have x2b0 := keepc h2 x1b0; have x2b1 := keepc h2 x1b1; have x2c0 := keepc h2 x1c0; have x2c1 := keepc h2 x1c1
    have q2 := q1.trans (h2.mono q1.size)
    clear x1a0 x1a1 x1b0 x1b1 x1c0 x1c1
    go_wp2_with fail
    refine (CY.out _).mono ?_
    rintro e w3 ⟨rfl, h3⟩
    have x3a0 := keepc h3 x2a0; have x3a1 := keepc h3 x2a1; have x3b0 := keepc h3 x2b0; have x3b1 := keepc h3 x2b1; have x3c0 := keepc h3 x2c0; have x3c1 := keepc h3 x2c1
    have q3 := q2.trans (h3.mono q2.size)
    clear x2a0 x2a1 x2b0 x2b1 x2c0 x2c1
    go_wp2_with fail
    refine (CZ.out _).mono ?_
    rintro e w4 ⟨rfl, h4⟩
    have x4a0 := keepc h4 x3a0; have x4a1 := keepc h4 x3a1; have x4b0 := keepc h4 x3b0; have x4b1 := keepc h4 x3b1; have x4c0 := keepc h4 x3c0; have x4c1 := keepc h4 x3c1
    have q4 := q3.trans (h4.mono q3.size)
    clear x3a0 x3a1 x3b0 x3b1 x3c0 x3c1
    go_wp2_with fail
    refine (CW.out _).mono ?_
    rintro e w5 ⟨rfl, h5⟩
    have x5a0 := keepc h5 x4a0; have x5a1 := keepc h5 x4a1; have x5b0 := keepc h5 x4b0; have x5b1 := keepc h5 x4b1; have x5c0 := keepc h5 x4c0; have x5c1 := keepc h5 x4c1
    have q5 := q4.trans (h5.mono q4.size)
    clear x4a0 x4a1 x4b0 x4b1 x4c0 x4c1
    go_wp2
    go_ret
    exact ⟨retb (by simp), q5⟩
  · have t1 : decide (0 < X) = false := by simp; omega
    by_cases hz : 0 < Z
    · have t2 : decide (0 < Z) = true := by simp; omega
      clear hw
      go_enter Try.func9, Try.ntmps9
      go_wp2_with fail
      refine (awake_any _).mono ?_
      rintro e w1 ⟨rfl, h1⟩
      have x1a0 := keepc h1 (a := ⟨w.heap.size, 0, none⟩) (v := .int .i64 a0) (by simp [go_sem])
      have x1a1 := keepc h1 (a := ⟨w.heap.size, 1, none⟩) (v := .int .i64 a1) (by simp [go_sem])
      have x1b0 := keepc h1 (a := ⟨w.heap.size + 1, 0, none⟩) (v := .int .i64 b0) (by simp [go_sem])
      have x1b1 := keepc h1 (a := ⟨w.heap.size + 1, 1, none⟩) (v := .int .i64 b1) (by simp [go_sem])
      have x1c0 := keepc h1 (a := ⟨w.heap.size + 1 + 1, 0, none⟩) (v := .int .i64 c0) (by simp [go_sem])
      have x1c1 := keepc h1 (a := ⟨w.heap.size + 1 + 1, 1, none⟩) (v := .int .i64 c1) (by simp [go_sem])
      have q1 : Below w.heap.size w w1 := Below.trans (by repeat (first | exact Below.refl _ _ | assumption | refine Below.alloc ?_ (by simp <;> omega) _ | refine Below.setCell ?_ (by simp <;> omega) _ | refine Below.drew ?_ | refine below_drewN ?_ _)) (h1.mono (by simp <;> omega))
      go_wp2_with fail
      refine (CX.out _).mono ?_
      rintro e w2 ⟨rfl, h2⟩
      have x2a0 := keepc h2 x1a0; have x2a1 := keepc h2 x1a1; have x2b0 := keepc h2 x1b0; have x2b1 := keepc h2 x1b1; have x2c0 := keepc h2 x1c0; have x2c1 := keepc h2 x1c1
      have q2 := q1.trans (h2.mono q1.size)
      clear x1a0 x1a1 x1b0 x1b1 x1c0 x1c1
      go_wp2_with fail
      refine (CY.out _).mono ?_
      rintro e w3 ⟨rfl, h3⟩
      have x3a0 := keepc h3 x2a0; have x3a1 := keepc h3 x2a1; have x3b0 := keepc h3 x2b0; have x3b1 := keepc h3 x2b1; have x3c0 := keepc h3 x2c0; have x3c1 := keepc h3 x2c1
      have q3 := q2.trans (h3.mono q2.size)
      clear x2a0 x2a1 x2b0 x2b1 x2c0 x2c1
      go_wp2_with fail
      refine (CZ.out _).mono ?_
      rintro e w4 ⟨rfl, h4⟩
      have x4a0 := keepc h4 x3a0; have x4a1 := keepc h4 x3a1; have x4b0 := keepc h4 x3b0; have x4b1 := keepc h4 x3b1; have x4c0 := keepc h4 x3c0; have x4c1 := keepc h4 x3c1
      have q4 := q3.trans (h4.mono q3.size)
      clear x3a0 x3a1 x3b0 x3b1 x3c0 x3c1
      go_wp2_with fail
      refine (CW.out _).mono ?_
      rintro e w5 ⟨rfl, h5⟩
      have x5a0 := keepc h5 x4a0; have x5a1 := keepc h5 x4a1; have x5b0 := keepc h5 x4b0; have x5b1 := keepc h5 x4b1; have x5c0 := keepc h5 x4c0; have x5c1 := keepc h5 x4c1
      have q5 := q4.trans (h5.mono q4.size)
      clear x4a0 x4a1 x4b0 x4b1 x4c0 x4c1
      go_wp2
      go_ret
      exact ⟨retb (by simp), q5⟩
    · have t2 : decide (0 < Z) = false := by simp; omega
      obtain ⟨w0, hw⟩ := hw (by omega) (by omega)
      have t3 : decide (W ≤ 0) = true := by simp; omega
      by_cases hx0 : X = 0
      · by_cases hz0 : Z = 0
        · have t4 : (X == 0) = true := by simp [hx0]
          have t5 : (Z == 0) = true := by simp [hz0]
          have t6 : (W == 0) = true := by simp; exact hw.2 ⟨hx0, hz0⟩
          clear hw hx0 hz0
          go_enter Try.func9, Try.ntmps9
          go_wp2_with fail
          refine (awake_any _).mono ?_
          rintro e w1 ⟨rfl, h1⟩
          have x1a0 := keepc h1 (a := ⟨w.heap.size, 0, none⟩) (v := .int .i64 a0) (by simp [go_sem])
          have x1a1 := keepc h1 (a := ⟨w.heap.size, 1, none⟩) (v := .int .i64 a1) (by simp [go_sem])
          have x1b0 := keepc h1 (a := ⟨w.heap.size + 1, 0, none⟩) (v := .int .i64 b0) (by simp [go_sem])
          have x1b1 := keepc h1 (a := ⟨w.heap.size + 1, 1, none⟩) (v := .int .i64 b1) (by simp [go_sem])
          have x1c0 := keepc h1 (a := ⟨w.heap.size + 1 + 1, 0, none⟩) (v := .int .i64 c0) (by simp [go_sem])
          have x1c1 := keepc h1 (a := ⟨w.heap.size + 1 + 1, 1, none⟩) (v := .int .i64 c1) (by simp [go_sem])
          have q1 : Below w.heap.size w w1 := Below.trans (by repeat (first | exact Below.refl _ _ | assumption | refine Below.alloc ?_ (by simp <;> omega) _ | refine Below.setCell ?_ (by simp <;> omega) _ | refine Below.drew ?_ | refine below_drewN ?_ _)) (h1.mono (by simp <;> omega))
          go_wp2_with fail
          refine (CX.out _).mono ?_
          rintro e w2 ⟨rfl, h2⟩
          have x2a0 := keepc h2 x1a0; have x2a1 := keepc h2 x1a1; have x2b0 := keepc h2 x1b0; have x2b1 := keepc h2 x1b1; have x2c0 := keepc h2 x1c0; have x2c1 := keepc h2 x1c1
          have q2 := q1.trans (h2.mono q1.size)
          clear x1a0 x1a1 x1b0 x1b1 x1c0 x1c1
          go_wp2_with fail
          refine (CY.out _).mono ?_
          rintro e w3 ⟨rfl, h3⟩
          have x3a0 := keepc h3 x2a0; have x3a1 := keepc h3 x2a1; have x3b0 := keepc h3 x2b0; have x3b1 := keepc h3 x2b1; have x3c0 := keepc h3 x2c0; have x3c1 := keepc h3 x2c1
          have q3 := q2.trans (h3.mono q2.size)
          clear x2a0 x2a1 x2b0 x2b1 x2c0 x2c1
          go_wp2_with fail
          refine (CZ.out _).mono ?_
          rintro e w4 ⟨rfl, h4⟩
          have x4a0 := keepc h4 x3a0; have x4a1 := keepc h4 x3a1; have x4b0 := keepc h4 x3b0; have x4b1 := keepc h4 x3b1; have x4c0 := keepc h4 x3c0; have x4c1 := keepc h4 x3c1
          have q4 := q3.trans (h4.mono q3.size)
          clear x3a0 x3a1 x3b0 x3b1 x3c0 x3c1
          go_wp2_with fail
          refine (CW.out _).mono ?_
          rintro e w5 ⟨rfl, h5⟩
          have x5a0 := keepc h5 x4a0; have x5a1 := keepc h5 x4a1; have x5b0 := keepc h5 x4b0; have x5b1 := keepc h5 x4b1; have x5c0 := keepc h5 x4c0; have x5c1 := keepc h5 x4c1
          have q5 := q4.trans (h5.mono q4.size)
          clear x4a0 x4a1 x4b0 x4b1 x4c0 x4c1
          go_wp2
          go_ret
          exact ⟨retb (by simp), q5⟩
        · have t4 : (X == 0) = true := by simp [hx0]
          have t5 : (Z == 0) = false := by simp [hz0]
          have t6 : (W == 0) = false := by simp; intro h; exact hz0 (hw.1 h).2
          clear hw hx0 hz0
          go_enter Try.func9, Try.ntmps9
          go_wp2_with fail
          refine (awake_any _).mono ?_
          rintro e w1 ⟨rfl, h1⟩
          have x1a0 := keepc h1 (a := ⟨w.heap.size, 0, none⟩) (v := .int .i64 a0) (by simp [go_sem])
          have x1a1 := keepc h1 (a := ⟨w.heap.size, 1, none⟩) (v := .int .i64 a1) (by simp [go_sem])
          have x1b0 := keepc h1 (a := ⟨w.heap.size + 1, 0, none⟩) (v := .int .i64 b0) (by simp [go_sem])
          have x1b1 := keepc h1 (a := ⟨w.heap.size + 1, 1, none⟩) (v := .int .i64 b1) (by simp [go_sem])
          have x1c0 := keepc h1 (a := ⟨w.heap.size + 1 + 1, 0, none⟩) (v := .int .i64 c0) (by simp [go_sem])
          have x1c1 := keepc h1 (a := ⟨w.heap.size + 1 + 1, 1, none⟩) (v := .int .i64 c1) (by simp [go_sem])
          have q1 : Below w.heap.size w w1 := Below.trans (by repeat (first | exact Below.refl _ _ | assumption | refine Below.alloc ?_ (by simp <;> omega) _ | refine Below.setCell ?_ (by simp <;> omega) _ | refine Below.drew ?_ | refine below_drewN ?_ _)) (h1.mono (by simp <;> omega))
          go_wp2_with fail
          refine (CX.out _).mono ?_
          rintro e w2 ⟨rfl, h2⟩
          have x2a0 := keepc h2 x1a0; have x2a1 := keepc h2 x1a1; have x2b0 := keepc h2 x1b0; have x2b1 := keepc h2 x1b1; have x2c0 := keepc h2 x1c0; have x2c1 := keepc h2 x1c1
          have q2 := q1.trans (h2.mono q1.size)
          clear x1a0 x1a1 x1b0 x1b1 x1c0 x1c1
          go_wp2_with fail
          refine (CY.out _).mono ?_
          rintro e w3 ⟨rfl, h3⟩
          have x3a0 := keepc h3 x2a0; have x3a1 := keepc h3 x2a1; have x3b0 := keepc h3 x2b0; have x3b1 := keepc h3 x2b1; have x3c0 := keepc h3 x2c0; have x3c1 := keepc h3 x2c1
          have q3 := q2.trans (h3.mono q2.size)
          clear x2a0 x2a1 x2b0 x2b1 x2c0 x2c1
          go_wp2_with fail
          refine (CZ.out _).mono ?_
          rintro e w4 ⟨rfl, h4⟩
          have x4a0 := keepc h4 x3a0; have x4a1 := keepc h4 x3a1; have x4b0 := keepc h4 x3b0; have x4b1 := keepc h4 x3b1; have x4c0 := keepc h4 x3c0; have x4c1 := keepc h4 x3c1
          have q4 := q3.trans (h4.mono q3.size)
          clear x3a0 x3a1 x3b0 x3b1 x3c0 x3c1
          go_wp2_with fail
          refine (CW.out _).mono ?_
          rintro e w5 ⟨rfl, h5⟩
          have x5a0 := keepc h5 x4a0; have x5a1 := keepc h5 x4a1; have x5b0 := keepc h5 x4b0; have x5b1 := keepc h5 x4b1; have x5c0 := keepc h5 x4c0; have x5c1 := keepc h5 x4c1
          have q5 := q4.trans (h5.mono q4.size)
          clear x4a0 x4a1 x4b0 x4b1 x4c0 x4c1
          go_wp2
          go_ret
          exact ⟨retb (by simp), q5⟩
      · have t4 : (X == 0) = false := by simp [hx0]
        have t6 : (W == 0) = false := by simp; intro h; exact hx0 (hw.1 h).1
        clear hw hx0
        go_enter Try.func9, Try.ntmps9
        go_wp2_with fail
        refine (awake_any _).mono ?_
        rintro e w1 ⟨rfl, h1⟩
        have x1a0 := keepc h1 (a := ⟨w.heap.size, 0, none⟩) (v := .int .i64 a0) (by simp [go_sem])
        have x1a1 := keepc h1 (a := ⟨w.heap.size, 1, none⟩) (v := .int .i64 a1) (by simp [go_sem])
        have x1b0 := keepc h1 (a := ⟨w.heap.size + 1, 0, none⟩) (v := .int .i64 b0) (by simp [go_sem])
        have x1b1 := keepc h1 (a := ⟨w.heap.size + 1, 1, none⟩) (v := .int .i64 b1) (by simp [go_sem])
        have x1c0 := keepc h1 (a := ⟨w.heap.size + 1 + 1, 0, none⟩) (v := .int .i64 c0) (by simp [go_sem])
        have x1c1 := keepc h1 (a := ⟨w.heap.size + 1 + 1, 1, none⟩) (v := .int .i64 c1) (by simp [go_sem])
        have q1 : Below w.heap.size w w1 := Below.trans (by repeat (first | exact Below.refl _ _ | assumption | refine Below.alloc ?_ (by simp <;> omega) _ | refine Below.setCell ?_ (by simp <;> omega) _ | refine Below.drew ?_ | refine below_drewN ?_ _)) (h1.mono (by simp <;> omega))
        go_wp2_with fail
        refine (CX.out _).mono ?_
        rintro e w2 ⟨rfl, h2⟩
        have x2a0 := keepc h2 x1a0; have x2a1 := keepc h2 x1a1; have x2b0 := keepc h2 x1b0; have x2b1 := keepc h2 x1b1; have x2c0 := keepc h2 x1c0; have x2c1 := keepc h2 x1c1
        have q2 := q1.trans (h2.mono q1.size)
        clear x1a0 x1a1 x1b0 x1b1 x1c0 x1c1
        go_wp2_with fail
        refine (CY.out _).mono ?_
        rintro e w3 ⟨rfl, h3⟩
        have x3a0 := keepc h3 x2a0; have x3a1 := keepc h3 x2a1; have x3b0 := keepc h3 x2b0; have x3b1 := keepc h3 x2b1; have x3c0 := keepc h3 x2c0; have x3c1 := keepc h3 x2c1
        have q3 := q2.trans (h3.mono q2.size)
        clear x2a0 x2a1 x2b0 x2b1 x2c0 x2c1
        go_wp2_with fail
        refine (CZ.out _).mono ?_
        rintro e w4 ⟨rfl, h4⟩
        have x4a0 := keepc h4 x3a0; have x4a1 := keepc h4 x3a1; have x4b0 := keepc h4 x3b0; have x4b1 := keepc h4 x3b1; have x4c0 := keepc h4 x3c0; have x4c1 := keepc h4 x3c1
        have q4 := q3.trans (h4.mono q3.size)
        clear x3a0 x3a1 x3b0 x3b1 x3c0 x3c1
        go_wp2_with fail
        refine (CW.out _).mono ?_
        rintro e w5 ⟨rfl, h5⟩
        have x5a0 := keepc h5 x4a0; have x5a1 := keepc h5 x4a1; have x5b0 := keepc h5 x4b0; have x5b1 := keepc h5 x4b1; have x5c0 := keepc h5 x4c0; have x5c1 := keepc h5 x4c1
        have q5 := q4.trans (h5.mono q4.size)
        clear x4a0 x4a1 x4b0 x4b1 x4c0 x4c1
        go_wp2
        go_ret
        exact ⟨retb (by simp), q5⟩

set_option maxHeartbeats 1000000 in
theorem walk (a0 a1 b0 b1 c0 c1 : Int) (w : World) (ha0 : I64 a0) (ha1 : I64 a1) (hb0 : I64 b0) (hb1 : I64 b1) (hc0 : I64 c0) (hc1 : I64 c1) :
    Calls Try.prog 9 #[.agg #[.int .i64 a0, .int .i64 a1], .agg #[.int .i64 b0, .int .i64 b1], .agg #[.int .i64 c0, .int .i64 c1]] w fun e w' => e = .returned (.bool true) ∧ Below w.heap.size w w' := by
  by_cases g1 : a1 < 1
  · have t1 : decide (a1 < 1) = true := by simp; omega
    go_enter Try.func9, Try.ntmps9
    go_wp2_with fail
    refine (awake_any _).mono ?_
    rintro e w1 ⟨rfl, h1⟩
    have x1a0 := keepc h1 (a := ⟨w.heap.size, 0, none⟩) (v := .int .i64 a0) (by simp [go_sem])
    have x1a1 := keepc h1 (a := ⟨w.heap.size, 1, none⟩) (v := .int .i64 a1) (by simp [go_sem])
    have x1b0 := keepc h1 (a := ⟨w.heap.size + 1, 0, none⟩) (v := .int .i64 b0) (by simp [go_sem])
    have x1b1 := keepc h1 (a := ⟨w.heap.size + 1, 1, none⟩) (v := .int .i64 b1) (by simp [go_sem])
    have x1c0 := keepc h1 (a := ⟨w.heap.size + 1 + 1, 0, none⟩) (v := .int .i64 c0) (by simp [go_sem])
    have x1c1 := keepc h1 (a := ⟨w.heap.size + 1 + 1, 1, none⟩) (v := .int .i64 c1) (by simp [go_sem])
    have q1 : Below w.heap.size w w1 := Below.trans (by repeat (first | exact Below.refl _ _ | assumption | refine Below.alloc ?_ (by simp <;> omega) _ | refine Below.setCell ?_ (by simp <;> omega) _ | refine Below.drew ?_ | refine below_drewN ?_ _)) (h1.mono (by simp <;> omega))
    go_wp2
    go_ret
    exact ⟨rfl, q1⟩
  · have t1 : decide (a1 < 1) = false := by simp; omega
    by_cases g2 : b1 < 1
    · have t2 : decide (b1 < 1) = true := by simp; omega
      go_enter Try.func9, Try.ntmps9
      go_wp2_with fail
      refine (awake_any _).mono ?_
      rintro e w1 ⟨rfl, h1⟩
      have x1a0 := keepc h1 (a := ⟨w.heap.size, 0, none⟩) (v := .int .i64 a0) (by simp [go_sem])
      have x1a1 := keepc h1 (a := ⟨w.heap.size, 1, none⟩) (v := .int .i64 a1) (by simp [go_sem])
      have x1b0 := keepc h1 (a := ⟨w.heap.size + 1, 0, none⟩) (v := .int .i64 b0) (by simp [go_sem])
      have x1b1 := keepc h1 (a := ⟨w.heap.size + 1, 1, none⟩) (v := .int .i64 b1) (by simp [go_sem])
      have x1c0 := keepc h1 (a := ⟨w.heap.size + 1 + 1, 0, none⟩) (v := .int .i64 c0) (by simp [go_sem])
      have x1c1 := keepc h1 (a := ⟨w.heap.size + 1 + 1, 1, none⟩) (v := .int .i64 c1) (by simp [go_sem])
      have q1 : Below w.heap.size w w1 := Below.trans (by repeat (first | exact Below.refl _ _ | assumption | refine Below.alloc ?_ (by simp <;> omega) _ | refine Below.setCell ?_ (by simp <;> omega) _ | refine Below.drew ?_ | refine below_drewN ?_ _)) (h1.mono (by simp <;> omega))
      go_wp2
      go_ret
      exact ⟨rfl, q1⟩
    · have t2 : decide (b1 < 1) = false := by simp; omega
      by_cases g3 : c1 < 1
      · have t3 : decide (c1 < 1) = true := by simp; omega
        go_enter Try.func9, Try.ntmps9
        go_wp2_with fail
        refine (awake_any _).mono ?_
        rintro e w1 ⟨rfl, h1⟩
        have x1a0 := keepc h1 (a := ⟨w.heap.size, 0, none⟩) (v := .int .i64 a0) (by simp [go_sem])
        have x1a1 := keepc h1 (a := ⟨w.heap.size, 1, none⟩) (v := .int .i64 a1) (by simp [go_sem])
        have x1b0 := keepc h1 (a := ⟨w.heap.size + 1, 0, none⟩) (v := .int .i64 b0) (by simp [go_sem])
        have x1b1 := keepc h1 (a := ⟨w.heap.size + 1, 1, none⟩) (v := .int .i64 b1) (by simp [go_sem])
        have x1c0 := keepc h1 (a := ⟨w.heap.size + 1 + 1, 0, none⟩) (v := .int .i64 c0) (by simp [go_sem])
        have x1c1 := keepc h1 (a := ⟨w.heap.size + 1 + 1, 1, none⟩) (v := .int .i64 c1) (by simp [go_sem])
        have q1 : Below w.heap.size w w1 := Below.trans (by repeat (first | exact Below.refl _ _ | assumption | refine Below.alloc ?_ (by simp <;> omega) _ | refine Below.setCell ?_ (by simp <;> omega) _ | refine Below.drew ?_ | refine below_drewN ?_ _)) (h1.mono (by simp <;> omega))
        go_wp2
        go_ret
        exact ⟨rfl, q1⟩
      · have X := ord_bd (a0 * b1) (b0 * a1)
        have Z := ord_bd (b0 * c1) (c0 * b1)
        have W := ord_bd (a0 * c1) (c0 * a1)
        have Y := fun w => cmp_ok b0 b1 a0 a1 hb0 hb1 ha0 ha1 (by omega) (by omega) w
        rw [ord_turn] at Y
        refine main a0 a1 b0 b1 c0 c1 _ _ _ w (by omega) (by omega) (by omega) (fun w => cmp_ok a0 a1 b0 b1 ha0 ha1 hb0 hb1 (by omega) (by omega) w) Y (fun w => cmp_ok b0 b1 c0 c1 hb0 hb1 hc0 hc1 (by omega) (by omega) w)
          (fun w => cmp_ok a0 a1 c0 c1 ha0 ha1 hc0 hc1 (by omega) (by omega) w) X.1 X.2 Z.1 Z.2 W.1 W.2 ?_
        intro k1 k2
        have m1 : a0 * b1 ≤ b0 * a1 := by have := @ord_pos (a0 * b1) (b0 * a1); omega
        have m2 : b0 * c1 ≤ c0 * b1 := by have := @ord_pos (b0 * c1) (c0 * b1); omega
        obtain ⟨n1, n2⟩ := trans_le (by omega) (by omega) (by omega) m1 m2
        refine ⟨?_, ?_⟩
        · have := @ord_pos (a0 * c1) (c0 * a1); omega
        · rw [ord_zero, ord_zero, ord_zero]; exact n2

theorem own : ownKnob Try.prog.godebug = none := by kernel_rfl
theorem laidOut : laidOutB Try.prog = true := by kernel_rfl

set_option maxRecDepth 100000 in
theorem lifted (os : Os) (started : os.Started) (H : Type) (enc : TypeId × Value → H) :
    ReturnsInHanded {} Try.checked os 9 .any (Rows.numOrderSpec.pre6 enc Try.prog Try.f9 Rows.numOrderRow.domain false) (Rows.numOrderSpec.post enc Try.prog Try.f9 false true false false) := by
  refine returnsInHanded_of_change (C := Try.checked) own started (by kernel_rfl) Try.func9
    (ChangeSpec.witness6 (enc := enc) (C := Try.checked) false ⟨#[], #[.agg #[.int .i64 0, .int .i64 0], .agg #[.int .i64 0, .int .i64 0], .agg #[.int .i64 0, .int .i64 0]], []⟩ 8 (by kernel_rfl) (by kernel_rfl) (by kernel_rfl) (by kernel_rfl)) ?_
  intro W base args ds gs before hval0 hW hcnd _
  have hval : ∀ (j : Nat) t v, Try.f9.params[j]? = some t → args[j]? = some v → Value.okWide Try.prog W .any base t v := hval0
  have hW' := hW
  obtain ⟨p, q, hA0, hV, rfl, hfz, hnd⟩ := hW
  have hA : DataW.TrodAll enc Try.prog W 0 (fun _ => true) true Try.f9.params.toList args.toList ds p := hA0
  rw [Try.params9] at hA hval
  obtain ⟨v0, vs0, d0, ds0, p0, q0, hargs, rfl, rfl, h0, r0⟩ := trodAll_cons hA
  obtain ⟨v1, vs1, d1, ds1, p1, q1, rfl, rfl, rfl, h1, r1⟩ := trodAll_cons r0
  obtain ⟨v2, vs2, d2, ds2, p2, q2, rfl, rfl, rfl, h2, r2⟩ := trodAll_cons r1
  obtain ⟨rfl, rfl, rfl⟩ := trodAll_nil r2
  obtain rfl : args = #[v0, v1, v2] := by cases args; simp_all
  obtain ⟨rfl, rfl⟩ := trodVars_none hV
  have lt0 : ∀ x ∈ p0, x.block < W.heap.size := by obtain ⟨m, hm⟩ := h0; exact DataW.trod_lt m _ _ _ hm
  have lt1 : ∀ x ∈ p1, x.block < W.heap.size := by obtain ⟨m, hm⟩ := h1; exact DataW.trod_lt m _ _ _ hm
  have lt2 : ∀ x ∈ p2, x.block < W.heap.size := by obtain ⟨m, hm⟩ := h2; exact DataW.trod_lt m _ _ _ hm
  obtain ⟨a0_0, a0_1, rfl, w0_0, w0_1⟩ := val_arr2 Try.underlying36 Try.underlying2 (by kernel_rfl) (by kernel_rfl) (hval 0 36 v0 rfl rfl) h0
  obtain ⟨a1_0, a1_1, rfl, w1_0, w1_1⟩ := val_arr2 Try.underlying36 Try.underlying2 (by kernel_rfl) (by kernel_rfl) (hval 1 36 v1 rfl rfl) h1
  obtain ⟨a2_0, a2_1, rfl, w2_0, w2_1⟩ := val_arr2 Try.underlying36 Try.underlying2 (by kernel_rfl) (by kernel_rfl) (hval 2 36 v2 rfl rfl) h2
  clear hA0 hval0
  refine (walk a0_0 a0_1 a1_0 a1_1 a2_0 a2_1 W w0_0 w0_1 w1_0 w1_1 w2_0 w2_1).mono fun e W' ⟨he, bel⟩ => ?_
  subst he
  exact ⟨_, rfl, _, _, _, [], _, [], hW', trodAll_mk1 (shut_bool Try.underlying4 _), (trodAll_cons_mk (Below.trod laidOut (by kernel_rfl) (of_decide_eq_true (by kernel_rfl)) h0 bel lt0) (trodAll_cons_mk (Below.trod laidOut (by kernel_rfl) (of_decide_eq_true (by kernel_rfl)) h1 bel lt1) (trodAll_cons_mk (Below.trod laidOut (by kernel_rfl) (of_decide_eq_true (by kernel_rfl)) h2 bel lt2) trodAll_mk0))), rfl, bel.frame _, fun h => by cases h⟩

theorem over : Rows.numOrderRow.holds Try.pinned (OpenSpec.ofChange Rows.numOrderSpec) :=
  OpenClaim.holds_of_wide 9 Try.f9 rfl rfl rfl rfl rfl rfl rfl ⟨rfl, rfl, rfl, rfl, rfl⟩ rfl rfl rfl rfl rfl (by kernel_rfl) Try.func9 (by kernel_rfl)
    (of_decide_eq_true (by kernel_rfl)) (by unfold Func.isWrapper; first | (rw [if_pos (by decide +kernel)]; kernel_rfl) | (rw [if_neg (by decide +kernel)]; exact ⟨rfl, rfl⟩))
    (fun os started H enc _ => lifted os started H enc)

theorem proved : Rows.NumOrderSaid := over
#print axioms proved
end Go.Proofs.Ytmajoognpggcpaa.numOrder
