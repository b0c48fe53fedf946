/- VecTurns: for all amounts and weights of int64 the law's call returns true. No further conditions. -/
import Derived.Test.YtmajoognpggcpabVH
import Derived.Test.YtmajoognpggcpabOpen
namespace Go.Proofs.Ytmajoognpggcpab.vecTurns
open Go.ChangeShapes Go.WideShapes Go.ChangeAt Go.RowKit
set_option linter.unusedVariables false

set_option maxHeartbeats 4000000 in
theorem caseA (a0 a1 b0 b1 c0 c1 x y z p q X Z T G H U W E M : Int) (w : World)
    (CX : Hid (∀ w : World, Calls Try.prog 14 #[.agg #[.int .i64 (a0), .int .i64 (a1)], .int .i64 (x), .agg #[.int .i64 (b0), .int .i64 (b1)], .int .i64 (y), .agg #[.int .i64 (p), .int .i64 (q)]] w fun e w' => e = .returned (.tuple #[.int .i64 (0), .int .i64 (1)]) ∧ Below w.heap.size w w'))
    (CY : Hid (∀ w : World, Calls Try.prog 14 #[.agg #[.int .i64 (b0), .int .i64 (b1)], .int .i64 (y), .agg #[.int .i64 (a0), .int .i64 (a1)], .int .i64 (x), .agg #[.int .i64 (p), .int .i64 (q)]] w fun e w' => e = .returned (.tuple #[.int .i64 (0), .int .i64 (1)]) ∧ Below w.heap.size w w'))
    (CZ : Hid (∀ w : World, Calls Try.prog 14 #[.agg #[.int .i64 (b0), .int .i64 (b1)], .int .i64 (y), .agg #[.int .i64 (c0), .int .i64 (c1)], .int .i64 (z), .agg #[.int .i64 (p), .int .i64 (q)]] w fun e w' => e = .returned (.tuple #[.int .i64 (Z), .int .i64 (G)]) ∧ Below w.heap.size w w'))
    (CT : Hid (∀ w : World, Calls Try.prog 14 #[.agg #[.int .i64 (a0), .int .i64 (a1)], .int .i64 (x), .agg #[.int .i64 (c0), .int .i64 (c1)], .int .i64 (z), .agg #[.int .i64 (p), .int .i64 (q)]] w fun e w' => e = .returned (.tuple #[.int .i64 (T), .int .i64 (H)]) ∧ Below w.heap.size w w')) :
    Calls Try.prog 5 #[.agg #[.int .i64 (a0), .int .i64 (a1)], .agg #[.int .i64 (b0), .int .i64 (b1)], .agg #[.int .i64 (c0), .int .i64 (c1)], .agg #[.int .i64 (x), .int .i64 (y), .int .i64 (z)], .agg #[.int .i64 (p), .int .i64 (q)]] w fun e w' => e = .returned (.bool true) ∧ Below w.heap.size w w' := by
  go_enter Try.func5, Try.ntmps5
  go_wp2_with fail
  refine (awake2_any _).mono ?_
  rintro e w1 ⟨rfl, h1⟩
  have g1 : Below w.heap.size w w1 := Below.trans (by repeat (first | exact Below.refl _ _ | assumption | refine Below.alloc ?_ (by simp <;> omega) _ | refine Below.setCell ?_ (by simp <;> omega) _ | refine Below.drew ?_ | refine below_drewN ?_ _)) (h1.mono (by simp <;> omega))
  have x1_0 := keepc h1 (a := ⟨w.heap.size, 0, none⟩) (v := .int .i64 (a0)) (by simp [go_sem])
  have x1_1 := keepc h1 (a := ⟨w.heap.size, 1, none⟩) (v := .int .i64 (a1)) (by simp [go_sem])
  have x1_2 := keepc h1 (a := ⟨w.heap.size + 1, 0, none⟩) (v := .int .i64 (b0)) (by simp [go_sem])
  have x1_3 := keepc h1 (a := ⟨w.heap.size + 1, 1, none⟩) (v := .int .i64 (b1)) (by simp [go_sem])
  have x1_4 := keepc h1 (a := ⟨w.heap.size + 1 + 1, 0, none⟩) (v := .int .i64 (c0)) (by simp [go_sem])
  have x1_5 := keepc h1 (a := ⟨w.heap.size + 1 + 1, 1, none⟩) (v := .int .i64 (c1)) (by simp [go_sem])
  have x1_6 := keepc h1 (a := ⟨w.heap.size + 1 + 1 + 1, 0, none⟩) (v := .int .i64 (x)) (by simp [go_sem])
  have x1_7 := keepc h1 (a := ⟨w.heap.size + 1 + 1 + 1, 1, none⟩) (v := .int .i64 (y)) (by simp [go_sem])
  have x1_8 := keepc h1 (a := ⟨w.heap.size + 1 + 1 + 1, 2, none⟩) (v := .int .i64 (z)) (by simp [go_sem])
  have x1_9 := keepc h1 (a := ⟨w.heap.size + 1 + 1 + 1 + 1, 0, none⟩) (v := .int .i64 (p)) (by simp [go_sem])
  have x1_10 := keepc h1 (a := ⟨w.heap.size + 1 + 1 + 1 + 1, 1, none⟩) (v := .int .i64 (q)) (by simp [go_sem])
  have q1 := g1
  clear g1 h1
  go_wp2_with fail
  refine (CX.out _).mono ?_
  rintro e w2 ⟨rfl, h2⟩
  have g2 : Below w1.heap.size w1 w2 := Below.trans (by repeat (first | exact Below.refl _ _ | assumption | refine Below.alloc ?_ (by simp <;> omega) _ | refine Below.setCell ?_ (by simp <;> omega) _ | refine Below.drew ?_ | refine below_drewN ?_ _)) (h2.mono (by simp <;> omega))
  have x2_0 := keepc g2 x1_0
  have x2_1 := keepc g2 x1_1
  have x2_2 := keepc g2 x1_2
  have x2_3 := keepc g2 x1_3
  have x2_4 := keepc g2 x1_4
  have x2_5 := keepc g2 x1_5
  have x2_6 := keepc g2 x1_6
  have x2_7 := keepc g2 x1_7
  have x2_8 := keepc g2 x1_8
  have x2_9 := keepc g2 x1_9
  have x2_10 := keepc g2 x1_10
  clear x1_0 x1_1 x1_2 x1_3 x1_4 x1_5 x1_6 x1_7 x1_8 x1_9 x1_10
  have q2 := q1.trans (g2.mono q1.size)
  clear g2 h2 q1
  go_wp2_with fail
  refine (CY.out _).mono ?_
  rintro e w3 ⟨rfl, h3⟩
  have g3 : Below w2.heap.size w2 w3 := Below.trans (by repeat (first | exact Below.refl _ _ | assumption | refine Below.alloc ?_ (by simp <;> omega) _ | refine Below.setCell ?_ (by simp <;> omega) _ | refine Below.drew ?_ | refine below_drewN ?_ _)) (h3.mono (by simp <;> omega))
  have x3_0 := keepc g3 x2_0
  have x3_1 := keepc g3 x2_1
  have x3_2 := keepc g3 x2_2
  have x3_3 := keepc g3 x2_3
  have x3_4 := keepc g3 x2_4
  have x3_5 := keepc g3 x2_5
  have x3_6 := keepc g3 x2_6
  have x3_7 := keepc g3 x2_7
  have x3_8 := keepc g3 x2_8
  have x3_9 := keepc g3 x2_9
  have x3_10 := keepc g3 x2_10
  clear x2_0 x2_1 x2_2 x2_3 x2_4 x2_5 x2_6 x2_7 x2_8 x2_9 x2_10
  have q3 := q2.trans (g3.mono q2.size)
  clear g3 h3 q2
  go_wp2_with fail
  refine (CZ.out _).mono ?_
  rintro e w4 ⟨rfl, h4⟩
  have g4 : Below w3.heap.size w3 w4 := Below.trans (by repeat (first | exact Below.refl _ _ | assumption | refine Below.alloc ?_ (by simp <;> omega) _ | refine Below.setCell ?_ (by simp <;> omega) _ | refine Below.drew ?_ | refine below_drewN ?_ _)) (h4.mono (by simp <;> omega))
  have x4_0 := keepc g4 x3_0
  have x4_1 := keepc g4 x3_1
  have x4_2 := keepc g4 x3_2
  have x4_3 := keepc g4 x3_3
  have x4_4 := keepc g4 x3_4
  have x4_5 := keepc g4 x3_5
  have x4_6 := keepc g4 x3_6
  have x4_7 := keepc g4 x3_7
  have x4_8 := keepc g4 x3_8
  have x4_9 := keepc g4 x3_9
  have x4_10 := keepc g4 x3_10
  clear x3_0 x3_1 x3_2 x3_3 x3_4 x3_5 x3_6 x3_7 x3_8 x3_9 x3_10
  have q4 := q3.trans (g4.mono q3.size)
  clear g4 h4 q3
  go_wp2_with fail
  refine (CT.out _).mono ?_
  rintro e w5 ⟨rfl, h5⟩
  have g5 : Below w4.heap.size w4 w5 := Below.trans (by repeat (first | exact Below.refl _ _ | assumption | refine Below.alloc ?_ (by simp <;> omega) _ | refine Below.setCell ?_ (by simp <;> omega) _ | refine Below.drew ?_ | refine below_drewN ?_ _)) (h5.mono (by simp <;> omega))
  have x5_0 := keepc g5 x4_0
  have x5_1 := keepc g5 x4_1
  have x5_2 := keepc g5 x4_2
  have x5_3 := keepc g5 x4_3
  have x5_4 := keepc g5 x4_4
  have x5_5 := keepc g5 x4_5
  have x5_6 := keepc g5 x4_6
  have x5_7 := keepc g5 x4_7
  have x5_8 := keepc g5 x4_8
  have x5_9 := keepc g5 x4_9
  have x5_10 := keepc g5 x4_10
  clear x4_0 x4_1 x4_2 x4_3 x4_4 x4_5 x4_6 x4_7 x4_8 x4_9 x4_10
  have q5 := q4.trans (g5.mono q4.size)
  clear g5 h5 q4
  go_wp2
  go_ret
  exact ⟨rfl, q5⟩

set_option maxHeartbeats 4000000 in
theorem caseB (a0 a1 b0 b1 c0 c1 x y z p q X Z T G H U W E M : Int) (w : World)
    (CX : Hid (∀ w : World, Calls Try.prog 14 #[.agg #[.int .i64 (a0), .int .i64 (a1)], .int .i64 (x), .agg #[.int .i64 (b0), .int .i64 (b1)], .int .i64 (y), .agg #[.int .i64 (p), .int .i64 (q)]] w fun e w' => e = .returned (.tuple #[.int .i64 (X), .int .i64 (0)]) ∧ Below w.heap.size w w'))
    (CY : Hid (∀ w : World, Calls Try.prog 14 #[.agg #[.int .i64 (b0), .int .i64 (b1)], .int .i64 (y), .agg #[.int .i64 (a0), .int .i64 (a1)], .int .i64 (x), .agg #[.int .i64 (p), .int .i64 (q)]] w fun e w' => e = .returned (.tuple #[.int .i64 (-X), .int .i64 (0)]) ∧ Below w.heap.size w w'))
    (CZ : Hid (∀ w : World, Calls Try.prog 14 #[.agg #[.int .i64 (b0), .int .i64 (b1)], .int .i64 (y), .agg #[.int .i64 (c0), .int .i64 (c1)], .int .i64 (z), .agg #[.int .i64 (p), .int .i64 (q)]] w fun e w' => e = .returned (.tuple #[.int .i64 (0), .int .i64 (1)]) ∧ Below w.heap.size w w'))
    (CT : Hid (∀ w : World, Calls Try.prog 14 #[.agg #[.int .i64 (a0), .int .i64 (a1)], .int .i64 (x), .agg #[.int .i64 (c0), .int .i64 (c1)], .int .i64 (z), .agg #[.int .i64 (p), .int .i64 (q)]] w fun e w' => e = .returned (.tuple #[.int .i64 (T), .int .i64 (H)]) ∧ Below w.heap.size w w')) :
    Calls Try.prog 5 #[.agg #[.int .i64 (a0), .int .i64 (a1)], .agg #[.int .i64 (b0), .int .i64 (b1)], .agg #[.int .i64 (c0), .int .i64 (c1)], .agg #[.int .i64 (x), .int .i64 (y), .int .i64 (z)], .agg #[.int .i64 (p), .int .i64 (q)]] w fun e w' => e = .returned (.bool true) ∧ Below w.heap.size w w' := by
  go_enter Try.func5, Try.ntmps5
  go_wp2_with fail
  refine (awake2_any _).mono ?_
  rintro e w1 ⟨rfl, h1⟩
  have g1 : Below w.heap.size w w1 := Below.trans (by repeat (first | exact Below.refl _ _ | assumption | refine Below.alloc ?_ (by simp <;> omega) _ | refine Below.setCell ?_ (by simp <;> omega) _ | refine Below.drew ?_ | refine below_drewN ?_ _)) (h1.mono (by simp <;> omega))
  have x1_0 := keepc h1 (a := ⟨w.heap.size, 0, none⟩) (v := .int .i64 (a0)) (by simp [go_sem])
  have x1_1 := keepc h1 (a := ⟨w.heap.size, 1, none⟩) (v := .int .i64 (a1)) (by simp [go_sem])
  have x1_2 := keepc h1 (a := ⟨w.heap.size + 1, 0, none⟩) (v := .int .i64 (b0)) (by simp [go_sem])
  have x1_3 := keepc h1 (a := ⟨w.heap.size + 1, 1, none⟩) (v := .int .i64 (b1)) (by simp [go_sem])
  have x1_4 := keepc h1 (a := ⟨w.heap.size + 1 + 1, 0, none⟩) (v := .int .i64 (c0)) (by simp [go_sem])
  have x1_5 := keepc h1 (a := ⟨w.heap.size + 1 + 1, 1, none⟩) (v := .int .i64 (c1)) (by simp [go_sem])
  have x1_6 := keepc h1 (a := ⟨w.heap.size + 1 + 1 + 1, 0, none⟩) (v := .int .i64 (x)) (by simp [go_sem])
  have x1_7 := keepc h1 (a := ⟨w.heap.size + 1 + 1 + 1, 1, none⟩) (v := .int .i64 (y)) (by simp [go_sem])
  have x1_8 := keepc h1 (a := ⟨w.heap.size + 1 + 1 + 1, 2, none⟩) (v := .int .i64 (z)) (by simp [go_sem])
  have x1_9 := keepc h1 (a := ⟨w.heap.size + 1 + 1 + 1 + 1, 0, none⟩) (v := .int .i64 (p)) (by simp [go_sem])
  have x1_10 := keepc h1 (a := ⟨w.heap.size + 1 + 1 + 1 + 1, 1, none⟩) (v := .int .i64 (q)) (by simp [go_sem])
  have q1 := g1
  clear g1 h1
  go_wp2_with fail
  refine (CX.out _).mono ?_
  rintro e w2 ⟨rfl, h2⟩
  have g2 : Below w1.heap.size w1 w2 := Below.trans (by repeat (first | exact Below.refl _ _ | assumption | refine Below.alloc ?_ (by simp <;> omega) _ | refine Below.setCell ?_ (by simp <;> omega) _ | refine Below.drew ?_ | refine below_drewN ?_ _)) (h2.mono (by simp <;> omega))
  have x2_0 := keepc g2 x1_0
  have x2_1 := keepc g2 x1_1
  have x2_2 := keepc g2 x1_2
  have x2_3 := keepc g2 x1_3
  have x2_4 := keepc g2 x1_4
  have x2_5 := keepc g2 x1_5
  have x2_6 := keepc g2 x1_6
  have x2_7 := keepc g2 x1_7
  have x2_8 := keepc g2 x1_8
  have x2_9 := keepc g2 x1_9
  have x2_10 := keepc g2 x1_10
  clear x1_0 x1_1 x1_2 x1_3 x1_4 x1_5 x1_6 x1_7 x1_8 x1_9 x1_10
  have q2 := q1.trans (g2.mono q1.size)
  clear g2 h2 q1
  go_wp2_with fail
  refine (CY.out _).mono ?_
  rintro e w3 ⟨rfl, h3⟩
  have g3 : Below w2.heap.size w2 w3 := Below.trans (by repeat (first | exact Below.refl _ _ | assumption | refine Below.alloc ?_ (by simp <;> omega) _ | refine Below.setCell ?_ (by simp <;> omega) _ | refine Below.drew ?_ | refine below_drewN ?_ _)) (h3.mono (by simp <;> omega))
  have x3_0 := keepc g3 x2_0
  have x3_1 := keepc g3 x2_1
  have x3_2 := keepc g3 x2_2
  have x3_3 := keepc g3 x2_3
  have x3_4 := keepc g3 x2_4
  have x3_5 := keepc g3 x2_5
  have x3_6 := keepc g3 x2_6
  have x3_7 := keepc g3 x2_7
  have x3_8 := keepc g3 x2_8
  have x3_9 := keepc g3 x2_9
  have x3_10 := keepc g3 x2_10
  clear x2_0 x2_1 x2_2 x2_3 x2_4 x2_5 x2_6 x2_7 x2_8 x2_9 x2_10
  have q3 := q2.trans (g3.mono q2.size)
  clear g3 h3 q2
  go_wp2_with fail
  refine (CZ.out _).mono ?_
  rintro e w4 ⟨rfl, h4⟩
  have g4 : Below w3.heap.size w3 w4 := Below.trans (by repeat (first | exact Below.refl _ _ | assumption | refine Below.alloc ?_ (by simp <;> omega) _ | refine Below.setCell ?_ (by simp <;> omega) _ | refine Below.drew ?_ | refine below_drewN ?_ _)) (h4.mono (by simp <;> omega))
  have x4_0 := keepc g4 x3_0
  have x4_1 := keepc g4 x3_1
  have x4_2 := keepc g4 x3_2
  have x4_3 := keepc g4 x3_3
  have x4_4 := keepc g4 x3_4
  have x4_5 := keepc g4 x3_5
  have x4_6 := keepc g4 x3_6
  have x4_7 := keepc g4 x3_7
  have x4_8 := keepc g4 x3_8
  have x4_9 := keepc g4 x3_9
  have x4_10 := keepc g4 x3_10
  clear x3_0 x3_1 x3_2 x3_3 x3_4 x3_5 x3_6 x3_7 x3_8 x3_9 x3_10
  have q4 := q3.trans (g4.mono q3.size)
  clear g4 h4 q3
  go_wp2_with fail
  refine (CT.out _).mono ?_
  rintro e w5 ⟨rfl, h5⟩
  have g5 : Below w4.heap.size w4 w5 := Below.trans (by repeat (first | exact Below.refl _ _ | assumption | refine Below.alloc ?_ (by simp <;> omega) _ | refine Below.setCell ?_ (by simp <;> omega) _ | refine Below.drew ?_ | refine below_drewN ?_ _)) (h5.mono (by simp <;> omega))
  have x5_0 := keepc g5 x4_0
  have x5_1 := keepc g5 x4_1
  have x5_2 := keepc g5 x4_2
  have x5_3 := keepc g5 x4_3
  have x5_4 := keepc g5 x4_4
  have x5_5 := keepc g5 x4_5
  have x5_6 := keepc g5 x4_6
  have x5_7 := keepc g5 x4_7
  have x5_8 := keepc g5 x4_8
  have x5_9 := keepc g5 x4_9
  have x5_10 := keepc g5 x4_10
  clear x4_0 x4_1 x4_2 x4_3 x4_4 x4_5 x4_6 x4_7 x4_8 x4_9 x4_10
  have q5 := q4.trans (g5.mono q4.size)
  clear g5 h5 q4
  go_wp2
  go_ret
  exact ⟨rfl, q5⟩

set_option maxHeartbeats 4000000 in
theorem caseC (a0 a1 b0 b1 c0 c1 x y z p q X Z T G H U W E M : Int) (w : World)
    (CX : Hid (∀ w : World, Calls Try.prog 14 #[.agg #[.int .i64 (a0), .int .i64 (a1)], .int .i64 (x), .agg #[.int .i64 (b0), .int .i64 (b1)], .int .i64 (y), .agg #[.int .i64 (p), .int .i64 (q)]] w fun e w' => e = .returned (.tuple #[.int .i64 (X), .int .i64 (0)]) ∧ Below w.heap.size w w'))
    (CY : Hid (∀ w : World, Calls Try.prog 14 #[.agg #[.int .i64 (b0), .int .i64 (b1)], .int .i64 (y), .agg #[.int .i64 (a0), .int .i64 (a1)], .int .i64 (x), .agg #[.int .i64 (p), .int .i64 (q)]] w fun e w' => e = .returned (.tuple #[.int .i64 (-X), .int .i64 (0)]) ∧ Below w.heap.size w w'))
    (CZ : Hid (∀ w : World, Calls Try.prog 14 #[.agg #[.int .i64 (b0), .int .i64 (b1)], .int .i64 (y), .agg #[.int .i64 (c0), .int .i64 (c1)], .int .i64 (z), .agg #[.int .i64 (p), .int .i64 (q)]] w fun e w' => e = .returned (.tuple #[.int .i64 (Z), .int .i64 (0)]) ∧ Below w.heap.size w w'))
    (CT : Hid (∀ w : World, Calls Try.prog 14 #[.agg #[.int .i64 (a0), .int .i64 (a1)], .int .i64 (x), .agg #[.int .i64 (c0), .int .i64 (c1)], .int .i64 (z), .agg #[.int .i64 (p), .int .i64 (q)]] w fun e w' => e = .returned (.tuple #[.int .i64 (0), .int .i64 (1)]) ∧ Below w.heap.size w w')) :
    Calls Try.prog 5 #[.agg #[.int .i64 (a0), .int .i64 (a1)], .agg #[.int .i64 (b0), .int .i64 (b1)], .agg #[.int .i64 (c0), .int .i64 (c1)], .agg #[.int .i64 (x), .int .i64 (y), .int .i64 (z)], .agg #[.int .i64 (p), .int .i64 (q)]] w fun e w' => e = .returned (.bool true) ∧ Below w.heap.size w w' := by
  go_enter Try.func5, Try.ntmps5
  go_wp2_with fail
  refine (awake2_any _).mono ?_
  rintro e w1 ⟨rfl, h1⟩
  have g1 : Below w.heap.size w w1 := Below.trans (by repeat (first | exact Below.refl _ _ | assumption | refine Below.alloc ?_ (by simp <;> omega) _ | refine Below.setCell ?_ (by simp <;> omega) _ | refine Below.drew ?_ | refine below_drewN ?_ _)) (h1.mono (by simp <;> omega))
  have x1_0 := keepc h1 (a := ⟨w.heap.size, 0, none⟩) (v := .int .i64 (a0)) (by simp [go_sem])
  have x1_1 := keepc h1 (a := ⟨w.heap.size, 1, none⟩) (v := .int .i64 (a1)) (by simp [go_sem])
  have x1_2 := keepc h1 (a := ⟨w.heap.size + 1, 0, none⟩) (v := .int .i64 (b0)) (by simp [go_sem])
  have x1_3 := keepc h1 (a := ⟨w.heap.size + 1, 1, none⟩) (v := .int .i64 (b1)) (by simp [go_sem])
  have x1_4 := keepc h1 (a := ⟨w.heap.size + 1 + 1, 0, none⟩) (v := .int .i64 (c0)) (by simp [go_sem])
  have x1_5 := keepc h1 (a := ⟨w.heap.size + 1 + 1, 1, none⟩) (v := .int .i64 (c1)) (by simp [go_sem])
  have x1_6 := keepc h1 (a := ⟨w.heap.size + 1 + 1 + 1, 0, none⟩) (v := .int .i64 (x)) (by simp [go_sem])
  have x1_7 := keepc h1 (a := ⟨w.heap.size + 1 + 1 + 1, 1, none⟩) (v := .int .i64 (y)) (by simp [go_sem])
  have x1_8 := keepc h1 (a := ⟨w.heap.size + 1 + 1 + 1, 2, none⟩) (v := .int .i64 (z)) (by simp [go_sem])
  have x1_9 := keepc h1 (a := ⟨w.heap.size + 1 + 1 + 1 + 1, 0, none⟩) (v := .int .i64 (p)) (by simp [go_sem])
  have x1_10 := keepc h1 (a := ⟨w.heap.size + 1 + 1 + 1 + 1, 1, none⟩) (v := .int .i64 (q)) (by simp [go_sem])
  have q1 := g1
  clear g1 h1
  go_wp2_with fail
  refine (CX.out _).mono ?_
  rintro e w2 ⟨rfl, h2⟩
  have g2 : Below w1.heap.size w1 w2 := Below.trans (by repeat (first | exact Below.refl _ _ | assumption | refine Below.alloc ?_ (by simp <;> omega) _ | refine Below.setCell ?_ (by simp <;> omega) _ | refine Below.drew ?_ | refine below_drewN ?_ _)) (h2.mono (by simp <;> omega))
  have x2_0 := keepc g2 x1_0
  have x2_1 := keepc g2 x1_1
  have x2_2 := keepc g2 x1_2
  have x2_3 := keepc g2 x1_3
  have x2_4 := keepc g2 x1_4
  have x2_5 := keepc g2 x1_5
  have x2_6 := keepc g2 x1_6
  have x2_7 := keepc g2 x1_7
  have x2_8 := keepc g2 x1_8
  have x2_9 := keepc g2 x1_9
  have x2_10 := keepc g2 x1_10
  clear x1_0 x1_1 x1_2 x1_3 x1_4 x1_5 x1_6 x1_7 x1_8 x1_9 x1_10
  have q2 := q1.trans (g2.mono q1.size)
  clear g2 h2 q1
  go_wp2_with fail
  refine (CY.out _).mono ?_
  rintro e w3 ⟨rfl, h3⟩
  have g3 : Below w2.heap.size w2 w3 := Below.trans (by repeat (first | exact Below.refl _ _ | assumption | refine Below.alloc ?_ (by simp <;> omega) _ | refine Below.setCell ?_ (by simp <;> omega) _ | refine Below.drew ?_ | refine below_drewN ?_ _)) (h3.mono (by simp <;> omega))
  have x3_0 := keepc g3 x2_0
  have x3_1 := keepc g3 x2_1
  have x3_2 := keepc g3 x2_2
  have x3_3 := keepc g3 x2_3
  have x3_4 := keepc g3 x2_4
  have x3_5 := keepc g3 x2_5
  have x3_6 := keepc g3 x2_6
  have x3_7 := keepc g3 x2_7
  have x3_8 := keepc g3 x2_8
  have x3_9 := keepc g3 x2_9
  have x3_10 := keepc g3 x2_10
  clear x2_0 x2_1 x2_2 x2_3 x2_4 x2_5 x2_6 x2_7 x2_8 x2_9 x2_10
  have q3 := q2.trans (g3.mono q2.size)
  clear g3 h3 q2
  go_wp2_with fail
  refine (CZ.out _).mono ?_
  rintro e w4 ⟨rfl, h4⟩
  have g4 : Below w3.heap.size w3 w4 := Below.trans (by repeat (first | exact Below.refl _ _ | assumption | refine Below.alloc ?_ (by simp <;> omega) _ | refine Below.setCell ?_ (by simp <;> omega) _ | refine Below.drew ?_ | refine below_drewN ?_ _)) (h4.mono (by simp <;> omega))
  have x4_0 := keepc g4 x3_0
  have x4_1 := keepc g4 x3_1
  have x4_2 := keepc g4 x3_2
  have x4_3 := keepc g4 x3_3
  have x4_4 := keepc g4 x3_4
  have x4_5 := keepc g4 x3_5
  have x4_6 := keepc g4 x3_6
  have x4_7 := keepc g4 x3_7
  have x4_8 := keepc g4 x3_8
  have x4_9 := keepc g4 x3_9
  have x4_10 := keepc g4 x3_10
  clear x3_0 x3_1 x3_2 x3_3 x3_4 x3_5 x3_6 x3_7 x3_8 x3_9 x3_10
  have q4 := q3.trans (g4.mono q3.size)
  clear g4 h4 q3
  go_wp2_with fail
  refine (CT.out _).mono ?_
  rintro e w5 ⟨rfl, h5⟩
  have g5 : Below w4.heap.size w4 w5 := Below.trans (by repeat (first | exact Below.refl _ _ | assumption | refine Below.alloc ?_ (by simp <;> omega) _ | refine Below.setCell ?_ (by simp <;> omega) _ | refine Below.drew ?_ | refine below_drewN ?_ _)) (h5.mono (by simp <;> omega))
  have x5_0 := keepc g5 x4_0
  have x5_1 := keepc g5 x4_1
  have x5_2 := keepc g5 x4_2
  have x5_3 := keepc g5 x4_3
  have x5_4 := keepc g5 x4_4
  have x5_5 := keepc g5 x4_5
  have x5_6 := keepc g5 x4_6
  have x5_7 := keepc g5 x4_7
  have x5_8 := keepc g5 x4_8
  have x5_9 := keepc g5 x4_9
  have x5_10 := keepc g5 x4_10
  clear x4_0 x4_1 x4_2 x4_3 x4_4 x4_5 x4_6 x4_7 x4_8 x4_9 x4_10
  have q5 := q4.trans (g5.mono q4.size)
  clear g5 h5 q4
  go_wp2
  go_ret
  exact ⟨rfl, q5⟩

set_option maxHeartbeats 4000000 in
theorem case00 (a0 a1 b0 b1 c0 c1 x y z p q X Z T G H U W E M : Int) (w : World)
    (CX : Hid (∀ w : World, Calls Try.prog 14 #[.agg #[.int .i64 (a0), .int .i64 (a1)], .int .i64 (x), .agg #[.int .i64 (b0), .int .i64 (b1)], .int .i64 (y), .agg #[.int .i64 (p), .int .i64 (q)]] w fun e w' => e = .returned (.tuple #[.int .i64 (X), .int .i64 (0)]) ∧ Below w.heap.size w w'))
    (CY : Hid (∀ w : World, Calls Try.prog 14 #[.agg #[.int .i64 (b0), .int .i64 (b1)], .int .i64 (y), .agg #[.int .i64 (a0), .int .i64 (a1)], .int .i64 (x), .agg #[.int .i64 (p), .int .i64 (q)]] w fun e w' => e = .returned (.tuple #[.int .i64 (-X), .int .i64 (0)]) ∧ Below w.heap.size w w'))
    (CZ : Hid (∀ w : World, Calls Try.prog 14 #[.agg #[.int .i64 (b0), .int .i64 (b1)], .int .i64 (y), .agg #[.int .i64 (c0), .int .i64 (c1)], .int .i64 (z), .agg #[.int .i64 (p), .int .i64 (q)]] w fun e w' => e = .returned (.tuple #[.int .i64 (Z), .int .i64 (0)]) ∧ Below w.heap.size w w'))
    (CT : Hid (∀ w : World, Calls Try.prog 14 #[.agg #[.int .i64 (a0), .int .i64 (a1)], .int .i64 (x), .agg #[.int .i64 (c0), .int .i64 (c1)], .int .i64 (z), .agg #[.int .i64 (p), .int .i64 (q)]] w fun e w' => e = .returned (.tuple #[.int .i64 (T), .int .i64 (0)]) ∧ Below w.heap.size w w'))
    (x1 : -1 ≤ X) (x2 : X ≤ 1) (tx : (X != X) = false)
    (t1 : decide (X ≤ 0) = false)
    (CA : Hid (∀ w : World, Calls Try.prog 8 #[.agg #[.int .i64 (a0), .int .i64 (a1)], .agg #[.int .i64 (b0), .int .i64 (b1)]] w fun e w' => e = .returned (.tuple #[.agg #[.int .i64 (U), .int .i64 (W)], .int .i64 (E)]) ∧ Below w.heap.size w w'))
    (t5 : (E != 0) = true) :
    Calls Try.prog 5 #[.agg #[.int .i64 (a0), .int .i64 (a1)], .agg #[.int .i64 (b0), .int .i64 (b1)], .agg #[.int .i64 (c0), .int .i64 (c1)], .agg #[.int .i64 (x), .int .i64 (y), .int .i64 (z)], .agg #[.int .i64 (p), .int .i64 (q)]] w fun e w' => e = .returned (.bool true) ∧ Below w.heap.size w w' := by
  go_enter Try.func5, Try.ntmps5
  go_wp2_with fail
  refine (awake2_any _).mono ?_
  rintro e w1 ⟨rfl, h1⟩
  have g1 : Below w.heap.size w w1 := Below.trans (by repeat (first | exact Below.refl _ _ | assumption | refine Below.alloc ?_ (by simp <;> omega) _ | refine Below.setCell ?_ (by simp <;> omega) _ | refine Below.drew ?_ | refine below_drewN ?_ _)) (h1.mono (by simp <;> omega))
  have x1_0 := keepc h1 (a := ⟨w.heap.size, 0, none⟩) (v := .int .i64 (a0)) (by simp [go_sem])
  have x1_1 := keepc h1 (a := ⟨w.heap.size, 1, none⟩) (v := .int .i64 (a1)) (by simp [go_sem])
  have x1_2 := keepc h1 (a := ⟨w.heap.size + 1, 0, none⟩) (v := .int .i64 (b0)) (by simp [go_sem])
  have x1_3 := keepc h1 (a := ⟨w.heap.size + 1, 1, none⟩) (v := .int .i64 (b1)) (by simp [go_sem])
  have x1_4 := keepc h1 (a := ⟨w.heap.size + 1 + 1, 0, none⟩) (v := .int .i64 (c0)) (by simp [go_sem])
  have x1_5 := keepc h1 (a := ⟨w.heap.size + 1 + 1, 1, none⟩) (v := .int .i64 (c1)) (by simp [go_sem])
  have x1_6 := keepc h1 (a := ⟨w.heap.size + 1 + 1 + 1, 0, none⟩) (v := .int .i64 (x)) (by simp [go_sem])
  have x1_7 := keepc h1 (a := ⟨w.heap.size + 1 + 1 + 1, 1, none⟩) (v := .int .i64 (y)) (by simp [go_sem])
  have x1_8 := keepc h1 (a := ⟨w.heap.size + 1 + 1 + 1, 2, none⟩) (v := .int .i64 (z)) (by simp [go_sem])
  have x1_9 := keepc h1 (a := ⟨w.heap.size + 1 + 1 + 1 + 1, 0, none⟩) (v := .int .i64 (p)) (by simp [go_sem])
  have x1_10 := keepc h1 (a := ⟨w.heap.size + 1 + 1 + 1 + 1, 1, none⟩) (v := .int .i64 (q)) (by simp [go_sem])
  have q1 := g1
  clear g1 h1
  go_wp2_with fail
  refine (CX.out _).mono ?_
  rintro e w2 ⟨rfl, h2⟩
  have g2 : Below w1.heap.size w1 w2 := Below.trans (by repeat (first | exact Below.refl _ _ | assumption | refine Below.alloc ?_ (by simp <;> omega) _ | refine Below.setCell ?_ (by simp <;> omega) _ | refine Below.drew ?_ | refine below_drewN ?_ _)) (h2.mono (by simp <;> omega))
  have x2_0 := keepc g2 x1_0
  have x2_1 := keepc g2 x1_1
  have x2_2 := keepc g2 x1_2
  have x2_3 := keepc g2 x1_3
  have x2_4 := keepc g2 x1_4
  have x2_5 := keepc g2 x1_5
  have x2_6 := keepc g2 x1_6
  have x2_7 := keepc g2 x1_7
  have x2_8 := keepc g2 x1_8
  have x2_9 := keepc g2 x1_9
  have x2_10 := keepc g2 x1_10
  clear x1_0 x1_1 x1_2 x1_3 x1_4 x1_5 x1_6 x1_7 x1_8 x1_9 x1_10
  have q2 := q1.trans (g2.mono q1.size)
  clear g2 h2 q1
  go_wp2_with fail
  refine (CY.out _).mono ?_
  rintro e w3 ⟨rfl, h3⟩
  have g3 : Below w2.heap.size w2 w3 := Below.trans (by repeat (first | exact Below.refl _ _ | assumption | refine Below.alloc ?_ (by simp <;> omega) _ | refine Below.setCell ?_ (by simp <;> omega) _ | refine Below.drew ?_ | refine below_drewN ?_ _)) (h3.mono (by simp <;> omega))
  have x3_0 := keepc g3 x2_0
  have x3_1 := keepc g3 x2_1
  have x3_2 := keepc g3 x2_2
  have x3_3 := keepc g3 x2_3
  have x3_4 := keepc g3 x2_4
  have x3_5 := keepc g3 x2_5
  have x3_6 := keepc g3 x2_6
  have x3_7 := keepc g3 x2_7
  have x3_8 := keepc g3 x2_8
  have x3_9 := keepc g3 x2_9
  have x3_10 := keepc g3 x2_10
  clear x2_0 x2_1 x2_2 x2_3 x2_4 x2_5 x2_6 x2_7 x2_8 x2_9 x2_10
  have q3 := q2.trans (g3.mono q2.size)
  clear g3 h3 q2
  go_wp2_with fail
  refine (CZ.out _).mono ?_
  rintro e w4 ⟨rfl, h4⟩
  have g4 : Below w3.heap.size w3 w4 := Below.trans (by repeat (first | exact Below.refl _ _ | assumption | refine Below.alloc ?_ (by simp <;> omega) _ | refine Below.setCell ?_ (by simp <;> omega) _ | refine Below.drew ?_ | refine below_drewN ?_ _)) (h4.mono (by simp <;> omega))
  have x4_0 := keepc g4 x3_0
  have x4_1 := keepc g4 x3_1
  have x4_2 := keepc g4 x3_2
  have x4_3 := keepc g4 x3_3
  have x4_4 := keepc g4 x3_4
  have x4_5 := keepc g4 x3_5
  have x4_6 := keepc g4 x3_6
  have x4_7 := keepc g4 x3_7
  have x4_8 := keepc g4 x3_8
  have x4_9 := keepc g4 x3_9
  have x4_10 := keepc g4 x3_10
  clear x3_0 x3_1 x3_2 x3_3 x3_4 x3_5 x3_6 x3_7 x3_8 x3_9 x3_10
  have q4 := q3.trans (g4.mono q3.size)
  clear g4 h4 q3
  go_wp2_with fail
  refine (CT.out _).mono ?_
  rintro e w5 ⟨rfl, h5⟩
  have g5 : Below w4.heap.size w4 w5 := Below.trans (by repeat (first | exact Below.refl _ _ | assumption | refine Below.alloc ?_ (by simp <;> omega) _ | refine Below.setCell ?_ (by simp <;> omega) _ | refine Below.drew ?_ | refine below_drewN ?_ _)) (h5.mono (by simp <;> omega))
  have x5_0 := keepc g5 x4_0
  have x5_1 := keepc g5 x4_1
  have x5_2 := keepc g5 x4_2
  have x5_3 := keepc g5 x4_3
  have x5_4 := keepc g5 x4_4
  have x5_5 := keepc g5 x4_5
  have x5_6 := keepc g5 x4_6
  have x5_7 := keepc g5 x4_7
  have x5_8 := keepc g5 x4_8
  have x5_9 := keepc g5 x4_9
  have x5_10 := keepc g5 x4_10
  clear x4_0 x4_1 x4_2 x4_3 x4_4 x4_5 x4_6 x4_7 x4_8 x4_9 x4_10
  have q5 := q4.trans (g5.mono q4.size)
  clear g5 h5 q4
  go_wp2_with fail
  refine (CA.out _).mono ?_
  rintro e w6 ⟨rfl, h6⟩
  have g6 : Below w5.heap.size w5 w6 := Below.trans (by repeat (first | exact Below.refl _ _ | assumption | refine Below.alloc ?_ (by simp <;> omega) _ | refine Below.setCell ?_ (by simp <;> omega) _ | refine Below.drew ?_ | refine below_drewN ?_ _)) (h6.mono (by simp <;> omega))
  have x6_0 := keepc g6 x5_0
  have x6_1 := keepc g6 x5_1
  have x6_2 := keepc g6 x5_2
  have x6_3 := keepc g6 x5_3
  have x6_4 := keepc g6 x5_4
  have x6_5 := keepc g6 x5_5
  have x6_6 := keepc g6 x5_6
  have x6_7 := keepc g6 x5_7
  have x6_8 := keepc g6 x5_8
  have x6_9 := keepc g6 x5_9
  have x6_10 := keepc g6 x5_10
  clear x5_0 x5_1 x5_2 x5_3 x5_4 x5_5 x5_6 x5_7 x5_8 x5_9 x5_10
  have q6 := q5.trans (g6.mono q5.size)
  clear g6 h6 q5
  have gg : Below w6.heap.size w6 (w6.alloc (.cells #[.int .i64 (U), .int .i64 (W)] 23)) := (by repeat (first | exact Below.refl _ _ | assumption | refine Below.alloc ?_ (by simp <;> omega) _ | refine Below.setCell ?_ (by simp <;> omega) _ | refine Below.drew ?_ | refine below_drewN ?_ _))
  have zx6_0 := keepc gg x6_0
  have zx6_1 := keepc gg x6_1
  have zx6_2 := keepc gg x6_2
  have zx6_3 := keepc gg x6_3
  have zx6_4 := keepc gg x6_4
  have zx6_5 := keepc gg x6_5
  have zx6_6 := keepc gg x6_6
  have zx6_7 := keepc gg x6_7
  have zx6_8 := keepc gg x6_8
  have zx6_9 := keepc gg x6_9
  have zx6_10 := keepc gg x6_10
  clear gg
  go_wp2
  go_ret
  exact ⟨rfl, q6.alloc q6.size _⟩

set_option maxHeartbeats 4000000 in
theorem case01 (a0 a1 b0 b1 c0 c1 x y z p q X Z T G H U W E M : Int) (w : World)
    (CX : Hid (∀ w : World, Calls Try.prog 14 #[.agg #[.int .i64 (a0), .int .i64 (a1)], .int .i64 (x), .agg #[.int .i64 (b0), .int .i64 (b1)], .int .i64 (y), .agg #[.int .i64 (p), .int .i64 (q)]] w fun e w' => e = .returned (.tuple #[.int .i64 (X), .int .i64 (0)]) ∧ Below w.heap.size w w'))
    (CY : Hid (∀ w : World, Calls Try.prog 14 #[.agg #[.int .i64 (b0), .int .i64 (b1)], .int .i64 (y), .agg #[.int .i64 (a0), .int .i64 (a1)], .int .i64 (x), .agg #[.int .i64 (p), .int .i64 (q)]] w fun e w' => e = .returned (.tuple #[.int .i64 (-X), .int .i64 (0)]) ∧ Below w.heap.size w w'))
    (CZ : Hid (∀ w : World, Calls Try.prog 14 #[.agg #[.int .i64 (b0), .int .i64 (b1)], .int .i64 (y), .agg #[.int .i64 (c0), .int .i64 (c1)], .int .i64 (z), .agg #[.int .i64 (p), .int .i64 (q)]] w fun e w' => e = .returned (.tuple #[.int .i64 (Z), .int .i64 (0)]) ∧ Below w.heap.size w w'))
    (CT : Hid (∀ w : World, Calls Try.prog 14 #[.agg #[.int .i64 (a0), .int .i64 (a1)], .int .i64 (x), .agg #[.int .i64 (c0), .int .i64 (c1)], .int .i64 (z), .agg #[.int .i64 (p), .int .i64 (q)]] w fun e w' => e = .returned (.tuple #[.int .i64 (T), .int .i64 (0)]) ∧ Below w.heap.size w w'))
    (x1 : -1 ≤ X) (x2 : X ≤ 1) (tx : (X != X) = false)
    (t1 : decide (X ≤ 0) = false)
    (CA : Hid (∀ w : World, Calls Try.prog 8 #[.agg #[.int .i64 (a0), .int .i64 (a1)], .agg #[.int .i64 (b0), .int .i64 (b1)]] w fun e w' => e = .returned (.tuple #[.agg #[.int .i64 (a0 + b0), .int .i64 (a1 + b1)], .int .i64 (0)]) ∧ Below w.heap.size w w'))
    (CM : Hid (∀ w : World, Calls Try.prog 14 #[.agg #[.int .i64 (a0), .int .i64 (a1)], .int .i64 (x), .agg #[.int .i64 (a0 + b0), .int .i64 (a1 + b1)], .int .i64 (x), .agg #[.int .i64 (p), .int .i64 (q)]] w fun e w' => e = .returned (.tuple #[.int .i64 (M), .int .i64 (0)]) ∧ Below w.heap.size w w')) (t4 : decide (M ≤ 0) = true) :
    Calls Try.prog 5 #[.agg #[.int .i64 (a0), .int .i64 (a1)], .agg #[.int .i64 (b0), .int .i64 (b1)], .agg #[.int .i64 (c0), .int .i64 (c1)], .agg #[.int .i64 (x), .int .i64 (y), .int .i64 (z)], .agg #[.int .i64 (p), .int .i64 (q)]] w fun e w' => e = .returned (.bool true) ∧ Below w.heap.size w w' := by
  go_enter Try.func5, Try.ntmps5
  go_wp2_with fail
  refine (awake2_any _).mono ?_
  rintro e w1 ⟨rfl, h1⟩
  have g1 : Below w.heap.size w w1 := Below.trans (by repeat (first | exact Below.refl _ _ | assumption | refine Below.alloc ?_ (by simp <;> omega) _ | refine Below.setCell ?_ (by simp <;> omega) _ | refine Below.drew ?_ | refine below_drewN ?_ _)) (h1.mono (by simp <;> omega))
  have x1_0 := keepc h1 (a := ⟨w.heap.size, 0, none⟩) (v := .int .i64 (a0)) (by simp [go_sem])
  have x1_1 := keepc h1 (a := ⟨w.heap.size, 1, none⟩) (v := .int .i64 (a1)) (by simp [go_sem])
  have x1_2 := keepc h1 (a := ⟨w.heap.size + 1, 0, none⟩) (v := .int .i64 (b0)) (by simp [go_sem])
  have x1_3 := keepc h1 (a := ⟨w.heap.size + 1, 1, none⟩) (v := .int .i64 (b1)) (by simp [go_sem])
  have x1_4 := keepc h1 (a := ⟨w.heap.size + 1 + 1, 0, none⟩) (v := .int .i64 (c0)) (by simp [go_sem])
  have x1_5 := keepc h1 (a := ⟨w.heap.size + 1 + 1, 1, none⟩) (v := .int .i64 (c1)) (by simp [go_sem])
  have x1_6 := keepc h1 (a := ⟨w.heap.size + 1 + 1 + 1, 0, none⟩) (v := .int .i64 (x)) (by simp [go_sem])
  have x1_7 := keepc h1 (a := ⟨w.heap.size + 1 + 1 + 1, 1, none⟩) (v := .int .i64 (y)) (by simp [go_sem])
  have x1_8 := keepc h1 (a := ⟨w.heap.size + 1 + 1 + 1, 2, none⟩) (v := .int .i64 (z)) (by simp [go_sem])
  have x1_9 := keepc h1 (a := ⟨w.heap.size + 1 + 1 + 1 + 1, 0, none⟩) (v := .int .i64 (p)) (by simp [go_sem])
  have x1_10 := keepc h1 (a := ⟨w.heap.size + 1 + 1 + 1 + 1, 1, none⟩) (v := .int .i64 (q)) (by simp [go_sem])
  have q1 := g1
  clear g1 h1
  go_wp2_with fail
  refine (CX.out _).mono ?_
  rintro e w2 ⟨rfl, h2⟩
  have g2 : Below w1.heap.size w1 w2 := Below.trans (by repeat (first | exact Below.refl _ _ | assumption | refine Below.alloc ?_ (by simp <;> omega) _ | refine Below.setCell ?_ (by simp <;> omega) _ | refine Below.drew ?_ | refine below_drewN ?_ _)) (h2.mono (by simp <;> omega))
  have x2_0 := keepc g2 x1_0
  have x2_1 := keepc g2 x1_1
  have x2_2 := keepc g2 x1_2
  have x2_3 := keepc g2 x1_3
  have x2_4 := keepc g2 x1_4
  have x2_5 := keepc g2 x1_5
  have x2_6 := keepc g2 x1_6
  have x2_7 := keepc g2 x1_7
  have x2_8 := keepc g2 x1_8
  have x2_9 := keepc g2 x1_9
  have x2_10 := keepc g2 x1_10
  clear x1_0 x1_1 x1_2 x1_3 x1_4 x1_5 x1_6 x1_7 x1_8 x1_9 x1_10
  have q2 := q1.trans (g2.mono q1.size)
  clear g2 h2 q1
  go_wp2_with fail
  refine (CY.out _).mono ?_
  rintro e w3 ⟨rfl, h3⟩
  have g3 : Below w2.heap.size w2 w3 := Below.trans (by repeat (first | exact Below.refl _ _ | assumption | refine Below.alloc ?_ (by simp <;> omega) _ | refine Below.setCell ?_ (by simp <;> omega) _ | refine Below.drew ?_ | refine below_drewN ?_ _)) (h3.mono (by simp <;> omega))
  have x3_0 := keepc g3 x2_0
  have x3_1 := keepc g3 x2_1
  have x3_2 := keepc g3 x2_2
  have x3_3 := keepc g3 x2_3
  have x3_4 := keepc g3 x2_4
  have x3_5 := keepc g3 x2_5
  have x3_6 := keepc g3 x2_6
  have x3_7 := keepc g3 x2_7
  have x3_8 := keepc g3 x2_8
  have x3_9 := keepc g3 x2_9
  have x3_10 := keepc g3 x2_10
  clear x2_0 x2_1 x2_2 x2_3 x2_4 x2_5 x2_6 x2_7 x2_8 x2_9 x2_10
  have q3 := q2.trans (g3.mono q2.size)
  clear g3 h3 q2
  go_wp2_with fail
  refine (CZ.out _).mono ?_
  rintro e w4 ⟨rfl, h4⟩
  have g4 : Below w3.heap.size w3 w4 := Below.trans (by repeat (first | exact Below.refl _ _ | assumption | refine Below.alloc ?_ (by simp <;> omega) _ | refine Below.setCell ?_ (by simp <;> omega) _ | refine Below.drew ?_ | refine below_drewN ?_ _)) (h4.mono (by simp <;> omega))
  have x4_0 := keepc g4 x3_0
  have x4_1 := keepc g4 x3_1
  have x4_2 := keepc g4 x3_2
  have x4_3 := keepc g4 x3_3
  have x4_4 := keepc g4 x3_4
  have x4_5 := keepc g4 x3_5
  have x4_6 := keepc g4 x3_6
  have x4_7 := keepc g4 x3_7
  have x4_8 := keepc g4 x3_8
  have x4_9 := keepc g4 x3_9
  have x4_10 := keepc g4 x3_10
  clear x3_0 x3_1 x3_2 x3_3 x3_4 x3_5 x3_6 x3_7 x3_8 x3_9 x3_10
  have q4 := q3.trans (g4.mono q3.size)
  clear g4 h4 q3
  go_wp2_with fail
  refine (CT.out _).mono ?_
  rintro e w5 ⟨rfl, h5⟩
  have g5 : Below w4.heap.size w4 w5 := Below.trans (by repeat (first | exact Below.refl _ _ | assumption | refine Below.alloc ?_ (by simp <;> omega) _ | refine Below.setCell ?_ (by simp <;> omega) _ | refine Below.drew ?_ | refine below_drewN ?_ _)) (h5.mono (by simp <;> omega))
  have x5_0 := keepc g5 x4_0
  have x5_1 := keepc g5 x4_1
  have x5_2 := keepc g5 x4_2
  have x5_3 := keepc g5 x4_3
  have x5_4 := keepc g5 x4_4
  have x5_5 := keepc g5 x4_5
  have x5_6 := keepc g5 x4_6
  have x5_7 := keepc g5 x4_7
  have x5_8 := keepc g5 x4_8
  have x5_9 := keepc g5 x4_9
  have x5_10 := keepc g5 x4_10
  clear x4_0 x4_1 x4_2 x4_3 x4_4 x4_5 x4_6 x4_7 x4_8 x4_9 x4_10
  have q5 := q4.trans (g5.mono q4.size)
  clear g5 h5 q4
  go_wp2_with fail
  refine (CA.out _).mono ?_
  rintro e w6 ⟨rfl, h6⟩
  have g6 : Below w5.heap.size w5 w6 := Below.trans (by repeat (first | exact Below.refl _ _ | assumption | refine Below.alloc ?_ (by simp <;> omega) _ | refine Below.setCell ?_ (by simp <;> omega) _ | refine Below.drew ?_ | refine below_drewN ?_ _)) (h6.mono (by simp <;> omega))
  have x6_0 := keepc g6 x5_0
  have x6_1 := keepc g6 x5_1
  have x6_2 := keepc g6 x5_2
  have x6_3 := keepc g6 x5_3
  have x6_4 := keepc g6 x5_4
  have x6_5 := keepc g6 x5_5
  have x6_6 := keepc g6 x5_6
  have x6_7 := keepc g6 x5_7
  have x6_8 := keepc g6 x5_8
  have x6_9 := keepc g6 x5_9
  have x6_10 := keepc g6 x5_10
  clear x5_0 x5_1 x5_2 x5_3 x5_4 x5_5 x5_6 x5_7 x5_8 x5_9 x5_10
  have q6 := q5.trans (g6.mono q5.size)
  clear g6 h6 q5
  have gg : Below w6.heap.size w6 (w6.alloc (.cells #[.int .i64 (a0 + b0), .int .i64 (a1 + b1)] 23)) := (by repeat (first | exact Below.refl _ _ | assumption | refine Below.alloc ?_ (by simp <;> omega) _ | refine Below.setCell ?_ (by simp <;> omega) _ | refine Below.drew ?_ | refine below_drewN ?_ _))
  have zx6_0 := keepc gg x6_0
  have zx6_1 := keepc gg x6_1
  have zx6_2 := keepc gg x6_2
  have zx6_3 := keepc gg x6_3
  have zx6_4 := keepc gg x6_4
  have zx6_5 := keepc gg x6_5
  have zx6_6 := keepc gg x6_6
  have zx6_7 := keepc gg x6_7
  have zx6_8 := keepc gg x6_8
  have zx6_9 := keepc gg x6_9
  have zx6_10 := keepc gg x6_10
  clear gg
  go_wp2_with fail
  refine (CM.out _).mono ?_
  rintro e w7 ⟨rfl, h7⟩
  have g7 : Below w6.heap.size w6 w7 := Below.trans (by repeat (first | exact Below.refl _ _ | assumption | refine Below.alloc ?_ (by simp <;> omega) _ | refine Below.setCell ?_ (by simp <;> omega) _ | refine Below.drew ?_ | refine below_drewN ?_ _)) (h7.mono (by simp <;> omega))
  have x7_0 := keepc g7 x6_0
  have x7_1 := keepc g7 x6_1
  have x7_2 := keepc g7 x6_2
  have x7_3 := keepc g7 x6_3
  have x7_4 := keepc g7 x6_4
  have x7_5 := keepc g7 x6_5
  have x7_6 := keepc g7 x6_6
  have x7_7 := keepc g7 x6_7
  have x7_8 := keepc g7 x6_8
  have x7_9 := keepc g7 x6_9
  have x7_10 := keepc g7 x6_10
  have x7_11 := keepc h7 (a := ⟨w6.heap.size, 0, none⟩) (v := .int .i64 (a0 + b0)) (by simp [go_sem])
  have x7_12 := keepc h7 (a := ⟨w6.heap.size, 1, none⟩) (v := .int .i64 (a1 + b1)) (by simp [go_sem])
  clear x6_0 x6_1 x6_2 x6_3 x6_4 x6_5 x6_6 x6_7 x6_8 x6_9 x6_10 zx6_0 zx6_1 zx6_2 zx6_3 zx6_4 zx6_5 zx6_6 zx6_7 zx6_8 zx6_9 zx6_10
  have q7 := q6.trans (g7.mono q6.size)
  clear g7 h7 q6
  go_wp2
  go_ret
  exact ⟨rfl, q7⟩

set_option maxHeartbeats 4000000 in
theorem case10 (a0 a1 b0 b1 c0 c1 x y z p q X Z T G H U W E M : Int) (w : World)
    (CX : Hid (∀ w : World, Calls Try.prog 14 #[.agg #[.int .i64 (a0), .int .i64 (a1)], .int .i64 (x), .agg #[.int .i64 (b0), .int .i64 (b1)], .int .i64 (y), .agg #[.int .i64 (p), .int .i64 (q)]] w fun e w' => e = .returned (.tuple #[.int .i64 (X), .int .i64 (0)]) ∧ Below w.heap.size w w'))
    (CY : Hid (∀ w : World, Calls Try.prog 14 #[.agg #[.int .i64 (b0), .int .i64 (b1)], .int .i64 (y), .agg #[.int .i64 (a0), .int .i64 (a1)], .int .i64 (x), .agg #[.int .i64 (p), .int .i64 (q)]] w fun e w' => e = .returned (.tuple #[.int .i64 (-X), .int .i64 (0)]) ∧ Below w.heap.size w w'))
    (CZ : Hid (∀ w : World, Calls Try.prog 14 #[.agg #[.int .i64 (b0), .int .i64 (b1)], .int .i64 (y), .agg #[.int .i64 (c0), .int .i64 (c1)], .int .i64 (z), .agg #[.int .i64 (p), .int .i64 (q)]] w fun e w' => e = .returned (.tuple #[.int .i64 (Z), .int .i64 (0)]) ∧ Below w.heap.size w w'))
    (CT : Hid (∀ w : World, Calls Try.prog 14 #[.agg #[.int .i64 (a0), .int .i64 (a1)], .int .i64 (x), .agg #[.int .i64 (c0), .int .i64 (c1)], .int .i64 (z), .agg #[.int .i64 (p), .int .i64 (q)]] w fun e w' => e = .returned (.tuple #[.int .i64 (T), .int .i64 (0)]) ∧ Below w.heap.size w w'))
    (x1 : -1 ≤ X) (x2 : X ≤ 1) (tx : (X != X) = false)
    (t1 : decide (X ≤ 0) = true)
    (t2 : decide (Z ≤ 0) = false)
    (CA : Hid (∀ w : World, Calls Try.prog 8 #[.agg #[.int .i64 (a0), .int .i64 (a1)], .agg #[.int .i64 (b0), .int .i64 (b1)]] w fun e w' => e = .returned (.tuple #[.agg #[.int .i64 (U), .int .i64 (W)], .int .i64 (E)]) ∧ Below w.heap.size w w'))
    (t5 : (E != 0) = true) :
    Calls Try.prog 5 #[.agg #[.int .i64 (a0), .int .i64 (a1)], .agg #[.int .i64 (b0), .int .i64 (b1)], .agg #[.int .i64 (c0), .int .i64 (c1)], .agg #[.int .i64 (x), .int .i64 (y), .int .i64 (z)], .agg #[.int .i64 (p), .int .i64 (q)]] w fun e w' => e = .returned (.bool true) ∧ Below w.heap.size w w' := by
  go_enter Try.func5, Try.ntmps5
  go_wp2_with fail
  refine (awake2_any _).mono ?_
  rintro e w1 ⟨rfl, h1⟩
  have g1 : Below w.heap.size w w1 := Below.trans (by repeat (first | exact Below.refl _ _ | assumption | refine Below.alloc ?_ (by simp <;> omega) _ | refine Below.setCell ?_ (by simp <;> omega) _ | refine Below.drew ?_ | refine below_drewN ?_ _)) (h1.mono (by simp <;> omega))
  have x1_0 := keepc h1 (a := ⟨w.heap.size, 0, none⟩) (v := .int .i64 (a0)) (by simp [go_sem])
  have x1_1 := keepc h1 (a := ⟨w.heap.size, 1, none⟩) (v := .int .i64 (a1)) (by simp [go_sem])
  have x1_2 := keepc h1 (a := ⟨w.heap.size + 1, 0, none⟩) (v := .int .i64 (b0)) (by simp [go_sem])
  have x1_3 := keepc h1 (a := ⟨w.heap.size + 1, 1, none⟩) (v := .int .i64 (b1)) (by simp [go_sem])
  have x1_4 := keepc h1 (a := ⟨w.heap.size + 1 + 1, 0, none⟩) (v := .int .i64 (c0)) (by simp [go_sem])
  have x1_5 := keepc h1 (a := ⟨w.heap.size + 1 + 1, 1, none⟩) (v := .int .i64 (c1)) (by simp [go_sem])
  have x1_6 := keepc h1 (a := ⟨w.heap.size + 1 + 1 + 1, 0, none⟩) (v := .int .i64 (x)) (by simp [go_sem])
  have x1_7 := keepc h1 (a := ⟨w.heap.size + 1 + 1 + 1, 1, none⟩) (v := .int .i64 (y)) (by simp [go_sem])
  have x1_8 := keepc h1 (a := ⟨w.heap.size + 1 + 1 + 1, 2, none⟩) (v := .int .i64 (z)) (by simp [go_sem])
  have x1_9 := keepc h1 (a := ⟨w.heap.size + 1 + 1 + 1 + 1, 0, none⟩) (v := .int .i64 (p)) (by simp [go_sem])
  have x1_10 := keepc h1 (a := ⟨w.heap.size + 1 + 1 + 1 + 1, 1, none⟩) (v := .int .i64 (q)) (by simp [go_sem])
  have q1 := g1
  clear g1 h1
  go_wp2_with fail
  refine (CX.out _).mono ?_
  rintro e w2 ⟨rfl, h2⟩
  have g2 : Below w1.heap.size w1 w2 := Below.trans (by repeat (first | exact Below.refl _ _ | assumption | refine Below.alloc ?_ (by simp <;> omega) _ | refine Below.setCell ?_ (by simp <;> omega) _ | refine Below.drew ?_ | refine below_drewN ?_ _)) (h2.mono (by simp <;> omega))
  have x2_0 := keepc g2 x1_0
  have x2_1 := keepc g2 x1_1
  have x2_2 := keepc g2 x1_2
  have x2_3 := keepc g2 x1_3
  have x2_4 := keepc g2 x1_4
  have x2_5 := keepc g2 x1_5
  have x2_6 := keepc g2 x1_6
  have x2_7 := keepc g2 x1_7
  have x2_8 := keepc g2 x1_8
  have x2_9 := keepc g2 x1_9
  have x2_10 := keepc g2 x1_10
  clear x1_0 x1_1 x1_2 x1_3 x1_4 x1_5 x1_6 x1_7 x1_8 x1_9 x1_10
  have q2 := q1.trans (g2.mono q1.size)
  clear g2 h2 q1
  go_wp2_with fail
  refine (CY.out _).mono ?_
  rintro e w3 ⟨rfl, h3⟩
  have g3 : Below w2.heap.size w2 w3 := Below.trans (by repeat (first | exact Below.refl _ _ | assumption | refine Below.alloc ?_ (by simp <;> omega) _ | refine Below.setCell ?_ (by simp <;> omega) _ | refine Below.drew ?_ | refine below_drewN ?_ _)) (h3.mono (by simp <;> omega))
  have x3_0 := keepc g3 x2_0
  have x3_1 := keepc g3 x2_1
  have x3_2 := keepc g3 x2_2
  have x3_3 := keepc g3 x2_3
  have x3_4 := keepc g3 x2_4
  have x3_5 := keepc g3 x2_5
  have x3_6 := keepc g3 x2_6
  have x3_7 := keepc g3 x2_7
  have x3_8 := keepc g3 x2_8
  have x3_9 := keepc g3 x2_9
  have x3_10 := keepc g3 x2_10
  clear x2_0 x2_1 x2_2 x2_3 x2_4 x2_5 x2_6 x2_7 x2_8 x2_9 x2_10
  have q3 := q2.trans (g3.mono q2.size)
  clear g3 h3 q2
  go_wp2_with fail
  refine (CZ.out _).mono ?_
  rintro e w4 ⟨rfl, h4⟩
  have g4 : Below w3.heap.size w3 w4 := Below.trans (by repeat (first | exact Below.refl _ _ | assumption | refine Below.alloc ?_ (by simp <;> omega) _ | refine Below.setCell ?_ (by simp <;> omega) _ | refine Below.drew ?_ | refine below_drewN ?_ _)) (h4.mono (by simp <;> omega))
  have x4_0 := keepc g4 x3_0
  have x4_1 := keepc g4 x3_1
  have x4_2 := keepc g4 x3_2
  have x4_3 := keepc g4 x3_3
  have x4_4 := keepc g4 x3_4
  have x4_5 := keepc g4 x3_5
  have x4_6 := keepc g4 x3_6
  have x4_7 := keepc g4 x3_7
  have x4_8 := keepc g4 x3_8
  have x4_9 := keepc g4 x3_9
  have x4_10 := keepc g4 x3_10
  clear x3_0 x3_1 x3_2 x3_3 x3_4 x3_5 x3_6 x3_7 x3_8 x3_9 x3_10
  have q4 := q3.trans (g4.mono q3.size)
  clear g4 h4 q3
  go_wp2_with fail
  refine (CT.out _).mono ?_
  rintro e w5 ⟨rfl, h5⟩
  have g5 : Below w4.heap.size w4 w5 := Below.trans (by repeat (first | exact Below.refl _ _ | assumption | refine Below.alloc ?_ (by simp <;> omega) _ | refine Below.setCell ?_ (by simp <;> omega) _ | refine Below.drew ?_ | refine below_drewN ?_ _)) (h5.mono (by simp <;> omega))
  have x5_0 := keepc g5 x4_0
  have x5_1 := keepc g5 x4_1
  have x5_2 := keepc g5 x4_2
  have x5_3 := keepc g5 x4_3
  have x5_4 := keepc g5 x4_4
  have x5_5 := keepc g5 x4_5
  have x5_6 := keepc g5 x4_6
  have x5_7 := keepc g5 x4_7
  have x5_8 := keepc g5 x4_8
  have x5_9 := keepc g5 x4_9
  have x5_10 := keepc g5 x4_10
  clear x4_0 x4_1 x4_2 x4_3 x4_4 x4_5 x4_6 x4_7 x4_8 x4_9 x4_10
  have q5 := q4.trans (g5.mono q4.size)
  clear g5 h5 q4
  go_wp2_with fail
  refine (CA.out _).mono ?_
  rintro e w6 ⟨rfl, h6⟩
  have g6 : Below w5.heap.size w5 w6 := Below.trans (by repeat (first | exact Below.refl _ _ | assumption | refine Below.alloc ?_ (by simp <;> omega) _ | refine Below.setCell ?_ (by simp <;> omega) _ | refine Below.drew ?_ | refine below_drewN ?_ _)) (h6.mono (by simp <;> omega))
  have x6_0 := keepc g6 x5_0
  have x6_1 := keepc g6 x5_1
  have x6_2 := keepc g6 x5_2
  have x6_3 := keepc g6 x5_3
  have x6_4 := keepc g6 x5_4
  have x6_5 := keepc g6 x5_5
  have x6_6 := keepc g6 x5_6
  have x6_7 := keepc g6 x5_7
  have x6_8 := keepc g6 x5_8
  have x6_9 := keepc g6 x5_9
  have x6_10 := keepc g6 x5_10
  clear x5_0 x5_1 x5_2 x5_3 x5_4 x5_5 x5_6 x5_7 x5_8 x5_9 x5_10
  have q6 := q5.trans (g6.mono q5.size)
  clear g6 h6 q5
  have gg : Below w6.heap.size w6 (w6.alloc (.cells #[.int .i64 (U), .int .i64 (W)] 23)) := (by repeat (first | exact Below.refl _ _ | assumption | refine Below.alloc ?_ (by simp <;> omega) _ | refine Below.setCell ?_ (by simp <;> omega) _ | refine Below.drew ?_ | refine below_drewN ?_ _))
  have zx6_0 := keepc gg x6_0
  have zx6_1 := keepc gg x6_1
  have zx6_2 := keepc gg x6_2
  have zx6_3 := keepc gg x6_3
  have zx6_4 := keepc gg x6_4
  have zx6_5 := keepc gg x6_5
  have zx6_6 := keepc gg x6_6
  have zx6_7 := keepc gg x6_7
  have zx6_8 := keepc gg x6_8
  have zx6_9 := keepc gg x6_9
  have zx6_10 := keepc gg x6_10
  clear gg
  go_wp2
  go_ret
  exact ⟨rfl, q6.alloc q6.size _⟩

set_option maxHeartbeats 4000000 in
theorem case11 (a0 a1 b0 b1 c0 c1 x y z p q X Z T G H U W E M : Int) (w : World)
    (CX : Hid (∀ w : World, Calls Try.prog 14 #[.agg #[.int .i64 (a0), .int .i64 (a1)], .int .i64 (x), .agg #[.int .i64 (b0), .int .i64 (b1)], .int .i64 (y), .agg #[.int .i64 (p), .int .i64 (q)]] w fun e w' => e = .returned (.tuple #[.int .i64 (X), .int .i64 (0)]) ∧ Below w.heap.size w w'))
    (CY : Hid (∀ w : World, Calls Try.prog 14 #[.agg #[.int .i64 (b0), .int .i64 (b1)], .int .i64 (y), .agg #[.int .i64 (a0), .int .i64 (a1)], .int .i64 (x), .agg #[.int .i64 (p), .int .i64 (q)]] w fun e w' => e = .returned (.tuple #[.int .i64 (-X), .int .i64 (0)]) ∧ Below w.heap.size w w'))
    (CZ : Hid (∀ w : World, Calls Try.prog 14 #[.agg #[.int .i64 (b0), .int .i64 (b1)], .int .i64 (y), .agg #[.int .i64 (c0), .int .i64 (c1)], .int .i64 (z), .agg #[.int .i64 (p), .int .i64 (q)]] w fun e w' => e = .returned (.tuple #[.int .i64 (Z), .int .i64 (0)]) ∧ Below w.heap.size w w'))
    (CT : Hid (∀ w : World, Calls Try.prog 14 #[.agg #[.int .i64 (a0), .int .i64 (a1)], .int .i64 (x), .agg #[.int .i64 (c0), .int .i64 (c1)], .int .i64 (z), .agg #[.int .i64 (p), .int .i64 (q)]] w fun e w' => e = .returned (.tuple #[.int .i64 (T), .int .i64 (0)]) ∧ Below w.heap.size w w'))
    (x1 : -1 ≤ X) (x2 : X ≤ 1) (tx : (X != X) = false)
    (t1 : decide (X ≤ 0) = true)
    (t2 : decide (Z ≤ 0) = false)
    (CA : Hid (∀ w : World, Calls Try.prog 8 #[.agg #[.int .i64 (a0), .int .i64 (a1)], .agg #[.int .i64 (b0), .int .i64 (b1)]] w fun e w' => e = .returned (.tuple #[.agg #[.int .i64 (a0 + b0), .int .i64 (a1 + b1)], .int .i64 (0)]) ∧ Below w.heap.size w w'))
    (CM : Hid (∀ w : World, Calls Try.prog 14 #[.agg #[.int .i64 (a0), .int .i64 (a1)], .int .i64 (x), .agg #[.int .i64 (a0 + b0), .int .i64 (a1 + b1)], .int .i64 (x), .agg #[.int .i64 (p), .int .i64 (q)]] w fun e w' => e = .returned (.tuple #[.int .i64 (M), .int .i64 (0)]) ∧ Below w.heap.size w w')) (t4 : decide (M ≤ 0) = true) :
    Calls Try.prog 5 #[.agg #[.int .i64 (a0), .int .i64 (a1)], .agg #[.int .i64 (b0), .int .i64 (b1)], .agg #[.int .i64 (c0), .int .i64 (c1)], .agg #[.int .i64 (x), .int .i64 (y), .int .i64 (z)], .agg #[.int .i64 (p), .int .i64 (q)]] w fun e w' => e = .returned (.bool true) ∧ Below w.heap.size w w' := by
  go_enter Try.func5, Try.ntmps5
  go_wp2_with fail
  refine (awake2_any _).mono ?_
  rintro e w1 ⟨rfl, h1⟩
  have g1 : Below w.heap.size w w1 := Below.trans (by repeat (first | exact Below.refl _ _ | assumption | refine Below.alloc ?_ (by simp <;> omega) _ | refine Below.setCell ?_ (by simp <;> omega) _ | refine Below.drew ?_ | refine below_drewN ?_ _)) (h1.mono (by simp <;> omega))
  have x1_0 := keepc h1 (a := ⟨w.heap.size, 0, none⟩) (v := .int .i64 (a0)) (by simp [go_sem])
  have x1_1 := keepc h1 (a := ⟨w.heap.size, 1, none⟩) (v := .int .i64 (a1)) (by simp [go_sem])
  have x1_2 := keepc h1 (a := ⟨w.heap.size + 1, 0, none⟩) (v := .int .i64 (b0)) (by simp [go_sem])
  have x1_3 := keepc h1 (a := ⟨w.heap.size + 1, 1, none⟩) (v := .int .i64 (b1)) (by simp [go_sem])
  have x1_4 := keepc h1 (a := ⟨w.heap.size + 1 + 1, 0, none⟩) (v := .int .i64 (c0)) (by simp [go_sem])
  have x1_5 := keepc h1 (a := ⟨w.heap.size + 1 + 1, 1, none⟩) (v := .int .i64 (c1)) (by simp [go_sem])
  have x1_6 := keepc h1 (a := ⟨w.heap.size + 1 + 1 + 1, 0, none⟩) (v := .int .i64 (x)) (by simp [go_sem])
  have x1_7 := keepc h1 (a := ⟨w.heap.size + 1 + 1 + 1, 1, none⟩) (v := .int .i64 (y)) (by simp [go_sem])
  have x1_8 := keepc h1 (a := ⟨w.heap.size + 1 + 1 + 1, 2, none⟩) (v := .int .i64 (z)) (by simp [go_sem])
  have x1_9 := keepc h1 (a := ⟨w.heap.size + 1 + 1 + 1 + 1, 0, none⟩) (v := .int .i64 (p)) (by simp [go_sem])
  have x1_10 := keepc h1 (a := ⟨w.heap.size + 1 + 1 + 1 + 1, 1, none⟩) (v := .int .i64 (q)) (by simp [go_sem])
  have q1 := g1
  clear g1 h1
  go_wp2_with fail
  refine (CX.out _).mono ?_
  rintro e w2 ⟨rfl, h2⟩
  have g2 : Below w1.heap.size w1 w2 := Below.trans (by repeat (first | exact Below.refl _ _ | assumption | refine Below.alloc ?_ (by simp <;> omega) _ | refine Below.setCell ?_ (by simp <;> omega) _ | refine Below.drew ?_ | refine below_drewN ?_ _)) (h2.mono (by simp <;> omega))
  have x2_0 := keepc g2 x1_0
  have x2_1 := keepc g2 x1_1
  have x2_2 := keepc g2 x1_2
  have x2_3 := keepc g2 x1_3
  have x2_4 := keepc g2 x1_4
  have x2_5 := keepc g2 x1_5
  have x2_6 := keepc g2 x1_6
  have x2_7 := keepc g2 x1_7
  have x2_8 := keepc g2 x1_8
  have x2_9 := keepc g2 x1_9
  have x2_10 := keepc g2 x1_10
  clear x1_0 x1_1 x1_2 x1_3 x1_4 x1_5 x1_6 x1_7 x1_8 x1_9 x1_10
  have q2 := q1.trans (g2.mono q1.size)
  clear g2 h2 q1
  go_wp2_with fail
  refine (CY.out _).mono ?_
  rintro e w3 ⟨rfl, h3⟩
  have g3 : Below w2.heap.size w2 w3 := Below.trans (by repeat (first | exact Below.refl _ _ | assumption | refine Below.alloc ?_ (by simp <;> omega) _ | refine Below.setCell ?_ (by simp <;> omega) _ | refine Below.drew ?_ | refine below_drewN ?_ _)) (h3.mono (by simp <;> omega))
  have x3_0 := keepc g3 x2_0
  have x3_1 := keepc g3 x2_1
  have x3_2 := keepc g3 x2_2
  have x3_3 := keepc g3 x2_3
  have x3_4 := keepc g3 x2_4
  have x3_5 := keepc g3 x2_5
  have x3_6 := keepc g3 x2_6
  have x3_7 := keepc g3 x2_7
  have x3_8 := keepc g3 x2_8
  have x3_9 := keepc g3 x2_9
  have x3_10 := keepc g3 x2_10
  clear x2_0 x2_1 x2_2 x2_3 x2_4 x2_5 x2_6 x2_7 x2_8 x2_9 x2_10
  have q3 := q2.trans (g3.mono q2.size)
  clear g3 h3 q2
  go_wp2_with fail
  refine (CZ.out _).mono ?_
  rintro e w4 ⟨rfl, h4⟩
  have g4 : Below w3.heap.size w3 w4 := Below.trans (by repeat (first | exact Below.refl _ _ | assumption | refine Below.alloc ?_ (by simp <;> omega) _ | refine Below.setCell ?_ (by simp <;> omega) _ | refine Below.drew ?_ | refine below_drewN ?_ _)) (h4.mono (by simp <;> omega))
  have x4_0 := keepc g4 x3_0
  have x4_1 := keepc g4 x3_1
  have x4_2 := keepc g4 x3_2
  have x4_3 := keepc g4 x3_3
  have x4_4 := keepc g4 x3_4
  have x4_5 := keepc g4 x3_5
  have x4_6 := keepc g4 x3_6
  have x4_7 := keepc g4 x3_7
  have x4_8 := keepc g4 x3_8
  have x4_9 := keepc g4 x3_9
  have x4_10 := keepc g4 x3_10
  clear x3_0 x3_1 x3_2 x3_3 x3_4 x3_5 x3_6 x3_7 x3_8 x3_9 x3_10
  have q4 := q3.trans (g4.mono q3.size)
  clear g4 h4 q3
  go_wp2_with fail
  refine (CT.out _).mono ?_
  rintro e w5 ⟨rfl, h5⟩
  have g5 : Below w4.heap.size w4 w5 := Below.trans (by repeat (first | exact Below.refl _ _ | assumption | refine Below.alloc ?_ (by simp <;> omega) _ | refine Below.setCell ?_ (by simp <;> omega) _ | refine Below.drew ?_ | refine below_drewN ?_ _)) (h5.mono (by simp <;> omega))
  have x5_0 := keepc g5 x4_0
  have x5_1 := keepc g5 x4_1
  have x5_2 := keepc g5 x4_2
  have x5_3 := keepc g5 x4_3
  have x5_4 := keepc g5 x4_4
  have x5_5 := keepc g5 x4_5
  have x5_6 := keepc g5 x4_6
  have x5_7 := keepc g5 x4_7
  have x5_8 := keepc g5 x4_8
  have x5_9 := keepc g5 x4_9
  have x5_10 := keepc g5 x4_10
  clear x4_0 x4_1 x4_2 x4_3 x4_4 x4_5 x4_6 x4_7 x4_8 x4_9 x4_10
  have q5 := q4.trans (g5.mono q4.size)
  clear g5 h5 q4
  go_wp2_with fail
  refine (CA.out _).mono ?_
  rintro e w6 ⟨rfl, h6⟩
  have g6 : Below w5.heap.size w5 w6 := Below.trans (by repeat (first | exact Below.refl _ _ | assumption | refine Below.alloc ?_ (by simp <;> omega) _ | refine Below.setCell ?_ (by simp <;> omega) _ | refine Below.drew ?_ | refine below_drewN ?_ _)) (h6.mono (by simp <;> omega))
  have x6_0 := keepc g6 x5_0
  have x6_1 := keepc g6 x5_1
  have x6_2 := keepc g6 x5_2
  have x6_3 := keepc g6 x5_3
  have x6_4 := keepc g6 x5_4
  have x6_5 := keepc g6 x5_5
  have x6_6 := keepc g6 x5_6
  have x6_7 := keepc g6 x5_7
  have x6_8 := keepc g6 x5_8
  have x6_9 := keepc g6 x5_9
  have x6_10 := keepc g6 x5_10
  clear x5_0 x5_1 x5_2 x5_3 x5_4 x5_5 x5_6 x5_7 x5_8 x5_9 x5_10
  have q6 := q5.trans (g6.mono q5.size)
  clear g6 h6 q5
  have gg : Below w6.heap.size w6 (w6.alloc (.cells #[.int .i64 (a0 + b0), .int .i64 (a1 + b1)] 23)) := (by repeat (first | exact Below.refl _ _ | assumption | refine Below.alloc ?_ (by simp <;> omega) _ | refine Below.setCell ?_ (by simp <;> omega) _ | refine Below.drew ?_ | refine below_drewN ?_ _))
  have zx6_0 := keepc gg x6_0
  have zx6_1 := keepc gg x6_1
  have zx6_2 := keepc gg x6_2
  have zx6_3 := keepc gg x6_3
  have zx6_4 := keepc gg x6_4
  have zx6_5 := keepc gg x6_5
  have zx6_6 := keepc gg x6_6
  have zx6_7 := keepc gg x6_7
  have zx6_8 := keepc gg x6_8
  have zx6_9 := keepc gg x6_9
  have zx6_10 := keepc gg x6_10
  clear gg
  go_wp2_with fail
  refine (CM.out _).mono ?_
  rintro e w7 ⟨rfl, h7⟩
  have g7 : Below w6.heap.size w6 w7 := Below.trans (by repeat (first | exact Below.refl _ _ | assumption | refine Below.alloc ?_ (by simp <;> omega) _ | refine Below.setCell ?_ (by simp <;> omega) _ | refine Below.drew ?_ | refine below_drewN ?_ _)) (h7.mono (by simp <;> omega))
  have x7_0 := keepc g7 x6_0
  have x7_1 := keepc g7 x6_1
  have x7_2 := keepc g7 x6_2
  have x7_3 := keepc g7 x6_3
  have x7_4 := keepc g7 x6_4
  have x7_5 := keepc g7 x6_5
  have x7_6 := keepc g7 x6_6
  have x7_7 := keepc g7 x6_7
  have x7_8 := keepc g7 x6_8
  have x7_9 := keepc g7 x6_9
  have x7_10 := keepc g7 x6_10
  have x7_11 := keepc h7 (a := ⟨w6.heap.size, 0, none⟩) (v := .int .i64 (a0 + b0)) (by simp [go_sem])
  have x7_12 := keepc h7 (a := ⟨w6.heap.size, 1, none⟩) (v := .int .i64 (a1 + b1)) (by simp [go_sem])
  clear x6_0 x6_1 x6_2 x6_3 x6_4 x6_5 x6_6 x6_7 x6_8 x6_9 x6_10 zx6_0 zx6_1 zx6_2 zx6_3 zx6_4 zx6_5 zx6_6 zx6_7 zx6_8 zx6_9 zx6_10
  have q7 := q6.trans (g7.mono q6.size)
  clear g7 h7 q6
  go_wp2
  go_ret
  exact ⟨rfl, q7⟩

set_option maxHeartbeats 4000000 in
theorem case20 (a0 a1 b0 b1 c0 c1 x y z p q X Z T G H U W E M : Int) (w : World)
    (CX : Hid (∀ w : World, Calls Try.prog 14 #[.agg #[.int .i64 (a0), .int .i64 (a1)], .int .i64 (x), .agg #[.int .i64 (b0), .int .i64 (b1)], .int .i64 (y), .agg #[.int .i64 (p), .int .i64 (q)]] w fun e w' => e = .returned (.tuple #[.int .i64 (X), .int .i64 (0)]) ∧ Below w.heap.size w w'))
    (CY : Hid (∀ w : World, Calls Try.prog 14 #[.agg #[.int .i64 (b0), .int .i64 (b1)], .int .i64 (y), .agg #[.int .i64 (a0), .int .i64 (a1)], .int .i64 (x), .agg #[.int .i64 (p), .int .i64 (q)]] w fun e w' => e = .returned (.tuple #[.int .i64 (-X), .int .i64 (0)]) ∧ Below w.heap.size w w'))
    (CZ : Hid (∀ w : World, Calls Try.prog 14 #[.agg #[.int .i64 (b0), .int .i64 (b1)], .int .i64 (y), .agg #[.int .i64 (c0), .int .i64 (c1)], .int .i64 (z), .agg #[.int .i64 (p), .int .i64 (q)]] w fun e w' => e = .returned (.tuple #[.int .i64 (Z), .int .i64 (0)]) ∧ Below w.heap.size w w'))
    (CT : Hid (∀ w : World, Calls Try.prog 14 #[.agg #[.int .i64 (a0), .int .i64 (a1)], .int .i64 (x), .agg #[.int .i64 (c0), .int .i64 (c1)], .int .i64 (z), .agg #[.int .i64 (p), .int .i64 (q)]] w fun e w' => e = .returned (.tuple #[.int .i64 (T), .int .i64 (0)]) ∧ Below w.heap.size w w'))
    (x1 : -1 ≤ X) (x2 : X ≤ 1) (tx : (X != X) = false)
    (t1 : decide (X ≤ 0) = true)
    (t2 : decide (Z ≤ 0) = true)
    (t3 : decide (0 < T) = false)
    (CA : Hid (∀ w : World, Calls Try.prog 8 #[.agg #[.int .i64 (a0), .int .i64 (a1)], .agg #[.int .i64 (b0), .int .i64 (b1)]] w fun e w' => e = .returned (.tuple #[.agg #[.int .i64 (U), .int .i64 (W)], .int .i64 (E)]) ∧ Below w.heap.size w w'))
    (t5 : (E != 0) = true) :
    Calls Try.prog 5 #[.agg #[.int .i64 (a0), .int .i64 (a1)], .agg #[.int .i64 (b0), .int .i64 (b1)], .agg #[.int .i64 (c0), .int .i64 (c1)], .agg #[.int .i64 (x), .int .i64 (y), .int .i64 (z)], .agg #[.int .i64 (p), .int .i64 (q)]] w fun e w' => e = .returned (.bool true) ∧ Below w.heap.size w w' := by
  go_enter Try.func5, Try.ntmps5
  go_wp2_with fail
  refine (awake2_any _).mono ?_
  rintro e w1 ⟨rfl, h1⟩
  have g1 : Below w.heap.size w w1 := Below.trans (by repeat (first | exact Below.refl _ _ | assumption | refine Below.alloc ?_ (by simp <;> omega) _ | refine Below.setCell ?_ (by simp <;> omega) _ | refine Below.drew ?_ | refine below_drewN ?_ _)) (h1.mono (by simp <;> omega))
  have x1_0 := keepc h1 (a := ⟨w.heap.size, 0, none⟩) (v := .int .i64 (a0)) (by simp [go_sem])
  have x1_1 := keepc h1 (a := ⟨w.heap.size, 1, none⟩) (v := .int .i64 (a1)) (by simp [go_sem])
  have x1_2 := keepc h1 (a := ⟨w.heap.size + 1, 0, none⟩) (v := .int .i64 (b0)) (by simp [go_sem])
  have x1_3 := keepc h1 (a := ⟨w.heap.size + 1, 1, none⟩) (v := .int .i64 (b1)) (by simp [go_sem])
  have x1_4 := keepc h1 (a := ⟨w.heap.size + 1 + 1, 0, none⟩) (v := .int .i64 (c0)) (by simp [go_sem])
  have x1_5 := keepc h1 (a := ⟨w.heap.size + 1 + 1, 1, none⟩) (v := .int .i64 (c1)) (by simp [go_sem])
  have x1_6 := keepc h1 (a := ⟨w.heap.size + 1 + 1 + 1, 0, none⟩) (v := .int .i64 (x)) (by simp [go_sem])
  have x1_7 := keepc h1 (a := ⟨w.heap.size + 1 + 1 + 1, 1, none⟩) (v := .int .i64 (y)) (by simp [go_sem])
  have x1_8 := keepc h1 (a := ⟨w.heap.size + 1 + 1 + 1, 2, none⟩) (v := .int .i64 (z)) (by simp [go_sem])
  have x1_9 := keepc h1 (a := ⟨w.heap.size + 1 + 1 + 1 + 1, 0, none⟩) (v := .int .i64 (p)) (by simp [go_sem])
  have x1_10 := keepc h1 (a := ⟨w.heap.size + 1 + 1 + 1 + 1, 1, none⟩) (v := .int .i64 (q)) (by simp [go_sem])
  have q1 := g1
  clear g1 h1
  go_wp2_with fail
  refine (CX.out _).mono ?_
  rintro e w2 ⟨rfl, h2⟩
  have g2 : Below w1.heap.size w1 w2 := Below.trans (by repeat (first | exact Below.refl _ _ | assumption | refine Below.alloc ?_ (by simp <;> omega) _ | refine Below.setCell ?_ (by simp <;> omega) _ | refine Below.drew ?_ | refine below_drewN ?_ _)) (h2.mono (by simp <;> omega))
  have x2_0 := keepc g2 x1_0
  have x2_1 := keepc g2 x1_1
  have x2_2 := keepc g2 x1_2
  have x2_3 := keepc g2 x1_3
  have x2_4 := keepc g2 x1_4
  have x2_5 := keepc g2 x1_5
  have x2_6 := keepc g2 x1_6
  have x2_7 := keepc g2 x1_7
  have x2_8 := keepc g2 x1_8
  have x2_9 := keepc g2 x1_9
  have x2_10 := keepc g2 x1_10
  clear x1_0 x1_1 x1_2 x1_3 x1_4 x1_5 x1_6 x1_7 x1_8 x1_9 x1_10
  have q2 := q1.trans (g2.mono q1.size)
  clear g2 h2 q1
  go_wp2_with fail
  refine (CY.out _).mono ?_
  rintro e w3 ⟨rfl, h3⟩
  have g3 : Below w2.heap.size w2 w3 := Below.trans (by repeat (first | exact Below.refl _ _ | assumption | refine Below.alloc ?_ (by simp <;> omega) _ | refine Below.setCell ?_ (by simp <;> omega) _ | refine Below.drew ?_ | refine below_drewN ?_ _)) (h3.mono (by simp <;> omega))
  have x3_0 := keepc g3 x2_0
  have x3_1 := keepc g3 x2_1
  have x3_2 := keepc g3 x2_2
  have x3_3 := keepc g3 x2_3
  have x3_4 := keepc g3 x2_4
  have x3_5 := keepc g3 x2_5
  have x3_6 := keepc g3 x2_6
  have x3_7 := keepc g3 x2_7
  have x3_8 := keepc g3 x2_8
  have x3_9 := keepc g3 x2_9
  have x3_10 := keepc g3 x2_10
  clear x2_0 x2_1 x2_2 x2_3 x2_4 x2_5 x2_6 x2_7 x2_8 x2_9 x2_10
  have q3 := q2.trans (g3.mono q2.size)
  clear g3 h3 q2
  go_wp2_with fail
  refine (CZ.out _).mono ?_
  rintro e w4 ⟨rfl, h4⟩
  have g4 : Below w3.heap.size w3 w4 := Below.trans (by repeat (first | exact Below.refl _ _ | assumption | refine Below.alloc ?_ (by simp <;> omega) _ | refine Below.setCell ?_ (by simp <;> omega) _ | refine Below.drew ?_ | refine below_drewN ?_ _)) (h4.mono (by simp <;> omega))
  have x4_0 := keepc g4 x3_0
  have x4_1 := keepc g4 x3_1
  have x4_2 := keepc g4 x3_2
  have x4_3 := keepc g4 x3_3
  have x4_4 := keepc g4 x3_4
  have x4_5 := keepc g4 x3_5
  have x4_6 := keepc g4 x3_6
  have x4_7 := keepc g4 x3_7
  have x4_8 := keepc g4 x3_8
  have x4_9 := keepc g4 x3_9
  have x4_10 := keepc g4 x3_10
  clear x3_0 x3_1 x3_2 x3_3 x3_4 x3_5 x3_6 x3_7 x3_8 x3_9 x3_10
  have q4 := q3.trans (g4.mono q3.size)
  clear g4 h4 q3
  go_wp2_with fail
  refine (CT.out _).mono ?_
  rintro e w5 ⟨rfl, h5⟩
  have g5 : Below w4.heap.size w4 w5 := Below.trans (by repeat (first | exact Below.refl _ _ | assumption | refine Below.alloc ?_ (by simp <;> omega) _ | refine Below.setCell ?_ (by simp <;> omega) _ | refine Below.drew ?_ | refine below_drewN ?_ _)) (h5.mono (by simp <;> omega))
  have x5_0 := keepc g5 x4_0
  have x5_1 := keepc g5 x4_1
  have x5_2 := keepc g5 x4_2
  have x5_3 := keepc g5 x4_3
  have x5_4 := keepc g5 x4_4
  have x5_5 := keepc g5 x4_5
  have x5_6 := keepc g5 x4_6
  have x5_7 := keepc g5 x4_7
  have x5_8 := keepc g5 x4_8
  have x5_9 := keepc g5 x4_9
  have x5_10 := keepc g5 x4_10
  clear x4_0 x4_1 x4_2 x4_3 x4_4 x4_5 x4_6 x4_7 x4_8 x4_9 x4_10
  have q5 := q4.trans (g5.mono q4.size)
  clear g5 h5 q4
  go_wp2_with fail
  refine (CA.out _).mono ?_
  rintro e w6 ⟨rfl, h6⟩
  have g6 : Below w5.heap.size w5 w6 := Below.trans (by repeat (first | exact Below.refl _ _ | assumption | refine Below.alloc ?_ (by simp <;> omega) _ | refine Below.setCell ?_ (by simp <;> omega) _ | refine Below.drew ?_ | refine below_drewN ?_ _)) (h6.mono (by simp <;> omega))
  have x6_0 := keepc g6 x5_0
  have x6_1 := keepc g6 x5_1
  have x6_2 := keepc g6 x5_2
  have x6_3 := keepc g6 x5_3
  have x6_4 := keepc g6 x5_4
  have x6_5 := keepc g6 x5_5
  have x6_6 := keepc g6 x5_6
  have x6_7 := keepc g6 x5_7
  have x6_8 := keepc g6 x5_8
  have x6_9 := keepc g6 x5_9
  have x6_10 := keepc g6 x5_10
  clear x5_0 x5_1 x5_2 x5_3 x5_4 x5_5 x5_6 x5_7 x5_8 x5_9 x5_10
  have q6 := q5.trans (g6.mono q5.size)
  clear g6 h6 q5
  have gg : Below w6.heap.size w6 (w6.alloc (.cells #[.int .i64 (U), .int .i64 (W)] 23)) := (by repeat (first | exact Below.refl _ _ | assumption | refine Below.alloc ?_ (by simp <;> omega) _ | refine Below.setCell ?_ (by simp <;> omega) _ | refine Below.drew ?_ | refine below_drewN ?_ _))
  have zx6_0 := keepc gg x6_0
  have zx6_1 := keepc gg x6_1
  have zx6_2 := keepc gg x6_2
  have zx6_3 := keepc gg x6_3
  have zx6_4 := keepc gg x6_4
  have zx6_5 := keepc gg x6_5
  have zx6_6 := keepc gg x6_6
  have zx6_7 := keepc gg x6_7
  have zx6_8 := keepc gg x6_8
  have zx6_9 := keepc gg x6_9
  have zx6_10 := keepc gg x6_10
  clear gg
  go_wp2
  go_ret
  exact ⟨rfl, q6.alloc q6.size _⟩

set_option maxHeartbeats 4000000 in
theorem case21 (a0 a1 b0 b1 c0 c1 x y z p q X Z T G H U W E M : Int) (w : World)
    (CX : Hid (∀ w : World, Calls Try.prog 14 #[.agg #[.int .i64 (a0), .int .i64 (a1)], .int .i64 (x), .agg #[.int .i64 (b0), .int .i64 (b1)], .int .i64 (y), .agg #[.int .i64 (p), .int .i64 (q)]] w fun e w' => e = .returned (.tuple #[.int .i64 (X), .int .i64 (0)]) ∧ Below w.heap.size w w'))
    (CY : Hid (∀ w : World, Calls Try.prog 14 #[.agg #[.int .i64 (b0), .int .i64 (b1)], .int .i64 (y), .agg #[.int .i64 (a0), .int .i64 (a1)], .int .i64 (x), .agg #[.int .i64 (p), .int .i64 (q)]] w fun e w' => e = .returned (.tuple #[.int .i64 (-X), .int .i64 (0)]) ∧ Below w.heap.size w w'))
    (CZ : Hid (∀ w : World, Calls Try.prog 14 #[.agg #[.int .i64 (b0), .int .i64 (b1)], .int .i64 (y), .agg #[.int .i64 (c0), .int .i64 (c1)], .int .i64 (z), .agg #[.int .i64 (p), .int .i64 (q)]] w fun e w' => e = .returned (.tuple #[.int .i64 (Z), .int .i64 (0)]) ∧ Below w.heap.size w w'))
    (CT : Hid (∀ w : World, Calls Try.prog 14 #[.agg #[.int .i64 (a0), .int .i64 (a1)], .int .i64 (x), .agg #[.int .i64 (c0), .int .i64 (c1)], .int .i64 (z), .agg #[.int .i64 (p), .int .i64 (q)]] w fun e w' => e = .returned (.tuple #[.int .i64 (T), .int .i64 (0)]) ∧ Below w.heap.size w w'))
    (x1 : -1 ≤ X) (x2 : X ≤ 1) (tx : (X != X) = false)
    (t1 : decide (X ≤ 0) = true)
    (t2 : decide (Z ≤ 0) = true)
    (t3 : decide (0 < T) = false)
    (CA : Hid (∀ w : World, Calls Try.prog 8 #[.agg #[.int .i64 (a0), .int .i64 (a1)], .agg #[.int .i64 (b0), .int .i64 (b1)]] w fun e w' => e = .returned (.tuple #[.agg #[.int .i64 (a0 + b0), .int .i64 (a1 + b1)], .int .i64 (0)]) ∧ Below w.heap.size w w'))
    (CM : Hid (∀ w : World, Calls Try.prog 14 #[.agg #[.int .i64 (a0), .int .i64 (a1)], .int .i64 (x), .agg #[.int .i64 (a0 + b0), .int .i64 (a1 + b1)], .int .i64 (x), .agg #[.int .i64 (p), .int .i64 (q)]] w fun e w' => e = .returned (.tuple #[.int .i64 (M), .int .i64 (0)]) ∧ Below w.heap.size w w')) (t4 : decide (M ≤ 0) = true) :
    Calls Try.prog 5 #[.agg #[.int .i64 (a0), .int .i64 (a1)], .agg #[.int .i64 (b0), .int .i64 (b1)], .agg #[.int .i64 (c0), .int .i64 (c1)], .agg #[.int .i64 (x), .int .i64 (y), .int .i64 (z)], .agg #[.int .i64 (p), .int .i64 (q)]] w fun e w' => e = .returned (.bool true) ∧ Below w.heap.size w w' := by
  go_enter Try.func5, Try.ntmps5
  go_wp2_with fail
  refine (awake2_any _).mono ?_
  rintro e w1 ⟨rfl, h1⟩
  have g1 : Below w.heap.size w w1 := Below.trans (by repeat (first | exact Below.refl _ _ | assumption | refine Below.alloc ?_ (by simp <;> omega) _ | refine Below.setCell ?_ (by simp <;> omega) _ | refine Below.drew ?_ | refine below_drewN ?_ _)) (h1.mono (by simp <;> omega))
  have x1_0 := keepc h1 (a := ⟨w.heap.size, 0, none⟩) (v := .int .i64 (a0)) (by simp [go_sem])
  have x1_1 := keepc h1 (a := ⟨w.heap.size, 1, none⟩) (v := .int .i64 (a1)) (by simp [go_sem])
  have x1_2 := keepc h1 (a := ⟨w.heap.size + 1, 0, none⟩) (v := .int .i64 (b0)) (by simp [go_sem])
  have x1_3 := keepc h1 (a := ⟨w.heap.size + 1, 1, none⟩) (v := .int .i64 (b1)) (by simp [go_sem])
  have x1_4 := keepc h1 (a := ⟨w.heap.size + 1 + 1, 0, none⟩) (v := .int .i64 (c0)) (by simp [go_sem])
  have x1_5 := keepc h1 (a := ⟨w.heap.size + 1 + 1, 1, none⟩) (v := .int .i64 (c1)) (by simp [go_sem])
  have x1_6 := keepc h1 (a := ⟨w.heap.size + 1 + 1 + 1, 0, none⟩) (v := .int .i64 (x)) (by simp [go_sem])
  have x1_7 := keepc h1 (a := ⟨w.heap.size + 1 + 1 + 1, 1, none⟩) (v := .int .i64 (y)) (by simp [go_sem])
  have x1_8 := keepc h1 (a := ⟨w.heap.size + 1 + 1 + 1, 2, none⟩) (v := .int .i64 (z)) (by simp [go_sem])
  have x1_9 := keepc h1 (a := ⟨w.heap.size + 1 + 1 + 1 + 1, 0, none⟩) (v := .int .i64 (p)) (by simp [go_sem])
  have x1_10 := keepc h1 (a := ⟨w.heap.size + 1 + 1 + 1 + 1, 1, none⟩) (v := .int .i64 (q)) (by simp [go_sem])
  have q1 := g1
  clear g1 h1
  go_wp2_with fail
  refine (CX.out _).mono ?_
  rintro e w2 ⟨rfl, h2⟩
  have g2 : Below w1.heap.size w1 w2 := Below.trans (by repeat (first | exact Below.refl _ _ | assumption | refine Below.alloc ?_ (by simp <;> omega) _ | refine Below.setCell ?_ (by simp <;> omega) _ | refine Below.drew ?_ | refine below_drewN ?_ _)) (h2.mono (by simp <;> omega))
  have x2_0 := keepc g2 x1_0
  have x2_1 := keepc g2 x1_1
  have x2_2 := keepc g2 x1_2
  have x2_3 := keepc g2 x1_3
  have x2_4 := keepc g2 x1_4
  have x2_5 := keepc g2 x1_5
  have x2_6 := keepc g2 x1_6
  have x2_7 := keepc g2 x1_7
  have x2_8 := keepc g2 x1_8
  have x2_9 := keepc g2 x1_9
  have x2_10 := keepc g2 x1_10
  clear x1_0 x1_1 x1_2 x1_3 x1_4 x1_5 x1_6 x1_7 x1_8 x1_9 x1_10
  have q2 := q1.trans (g2.mono q1.size)
  clear g2 h2 q1
  go_wp2_with fail
  refine (CY.out _).mono ?_
  rintro e w3 ⟨rfl, h3⟩
  have g3 : Below w2.heap.size w2 w3 := Below.trans (by repeat (first | exact Below.refl _ _ | assumption | refine Below.alloc ?_ (by simp <;> omega) _ | refine Below.setCell ?_ (by simp <;> omega) _ | refine Below.drew ?_ | refine below_drewN ?_ _)) (h3.mono (by simp <;> omega))
  have x3_0 := keepc g3 x2_0
  have x3_1 := keepc g3 x2_1
  have x3_2 := keepc g3 x2_2
  have x3_3 := keepc g3 x2_3
  have x3_4 := keepc g3 x2_4
  have x3_5 := keepc g3 x2_5
  have x3_6 := keepc g3 x2_6
  have x3_7 := keepc g3 x2_7
  have x3_8 := keepc g3 x2_8
  have x3_9 := keepc g3 x2_9
  have x3_10 := keepc g3 x2_10
  clear x2_0 x2_1 x2_2 x2_3 x2_4 x2_5 x2_6 x2_7 x2_8 x2_9 x2_10
  have q3 := q2.trans (g3.mono q2.size)
  clear g3 h3 q2
  go_wp2_with fail
  refine (CZ.out _).mono ?_
  rintro e w4 ⟨rfl, h4⟩
  have g4 : Below w3.heap.size w3 w4 := Below.trans (by repeat (first | exact Below.refl _ _ | assumption | refine Below.alloc ?_ (by simp <;> omega) _ | refine Below.setCell ?_ (by simp <;> omega) _ | refine Below.drew ?_ | refine below_drewN ?_ _)) (h4.mono (by simp <;> omega))
  have x4_0 := keepc g4 x3_0
  have x4_1 := keepc g4 x3_1
  have x4_2 := keepc g4 x3_2
  have x4_3 := keepc g4 x3_3
  have x4_4 := keepc g4 x3_4
  have x4_5 := keepc g4 x3_5
  have x4_6 := keepc g4 x3_6
  have x4_7 := keepc g4 x3_7
  have x4_8 := keepc g4 x3_8
  have x4_9 := keepc g4 x3_9
  have x4_10 := keepc g4 x3_10
  clear x3_0 x3_1 x3_2 x3_3 x3_4 x3_5 x3_6 x3_7 x3_8 x3_9 x3_10
  have q4 := q3.trans (g4.mono q3.size)
  clear g4 h4 q3
  go_wp2_with fail
  refine (CT.out _).mono ?_
  rintro e w5 ⟨rfl, h5⟩
  have g5 : Below w4.heap.size w4 w5 := Below.trans (by repeat (first | exact Below.refl _ _ | assumption | refine Below.alloc ?_ (by simp <;> omega) _ | refine Below.setCell ?_ (by simp <;> omega) _ | refine Below.drew ?_ | refine below_drewN ?_ _)) (h5.mono (by simp <;> omega))
  have x5_0 := keepc g5 x4_0
  have x5_1 := keepc g5 x4_1
  have x5_2 := keepc g5 x4_2
  have x5_3 := keepc g5 x4_3
  have x5_4 := keepc g5 x4_4
  have x5_5 := keepc g5 x4_5
  have x5_6 := keepc g5 x4_6
  have x5_7 := keepc g5 x4_7
  have x5_8 := keepc g5 x4_8
  have x5_9 := keepc g5 x4_9
  have x5_10 := keepc g5 x4_10
  clear x4_0 x4_1 x4_2 x4_3 x4_4 x4_5 x4_6 x4_7 x4_8 x4_9 x4_10
  have q5 := q4.trans (g5.mono q4.size)
  clear g5 h5 q4
  go_wp2_with fail
  refine (CA.out _).mono ?_
  rintro e w6 ⟨rfl, h6⟩
  have g6 : Below w5.heap.size w5 w6 := Below.trans (by repeat (first | exact Below.refl _ _ | assumption | refine Below.alloc ?_ (by simp <;> omega) _ | refine Below.setCell ?_ (by simp <;> omega) _ | refine Below.drew ?_ | refine below_drewN ?_ _)) (h6.mono (by simp <;> omega))
  have x6_0 := keepc g6 x5_0
  have x6_1 := keepc g6 x5_1
  have x6_2 := keepc g6 x5_2
  have x6_3 := keepc g6 x5_3
  have x6_4 := keepc g6 x5_4
  have x6_5 := keepc g6 x5_5
  have x6_6 := keepc g6 x5_6
  have x6_7 := keepc g6 x5_7
  have x6_8 := keepc g6 x5_8
  have x6_9 := keepc g6 x5_9
  have x6_10 := keepc g6 x5_10
  clear x5_0 x5_1 x5_2 x5_3 x5_4 x5_5 x5_6 x5_7 x5_8 x5_9 x5_10
  have q6 := q5.trans (g6.mono q5.size)
  clear g6 h6 q5
  have gg : Below w6.heap.size w6 (w6.alloc (.cells #[.int .i64 (a0 + b0), .int .i64 (a1 + b1)] 23)) := (by repeat (first | exact Below.refl _ _ | assumption | refine Below.alloc ?_ (by simp <;> omega) _ | refine Below.setCell ?_ (by simp <;> omega) _ | refine Below.drew ?_ | refine below_drewN ?_ _))
  have zx6_0 := keepc gg x6_0
  have zx6_1 := keepc gg x6_1
  have zx6_2 := keepc gg x6_2
  have zx6_3 := keepc gg x6_3
  have zx6_4 := keepc gg x6_4
  have zx6_5 := keepc gg x6_5
  have zx6_6 := keepc gg x6_6
  have zx6_7 := keepc gg x6_7
  have zx6_8 := keepc gg x6_8
  have zx6_9 := keepc gg x6_9
  have zx6_10 := keepc gg x6_10
  clear gg
  go_wp2_with fail
  refine (CM.out _).mono ?_
  rintro e w7 ⟨rfl, h7⟩
  have g7 : Below w6.heap.size w6 w7 := Below.trans (by repeat (first | exact Below.refl _ _ | assumption | refine Below.alloc ?_ (by simp <;> omega) _ | refine Below.setCell ?_ (by simp <;> omega) _ | refine Below.drew ?_ | refine below_drewN ?_ _)) (h7.mono (by simp <;> omega))
  have x7_0 := keepc g7 x6_0
  have x7_1 := keepc g7 x6_1
  have x7_2 := keepc g7 x6_2
  have x7_3 := keepc g7 x6_3
  have x7_4 := keepc g7 x6_4
  have x7_5 := keepc g7 x6_5
  have x7_6 := keepc g7 x6_6
  have x7_7 := keepc g7 x6_7
  have x7_8 := keepc g7 x6_8
  have x7_9 := keepc g7 x6_9
  have x7_10 := keepc g7 x6_10
  have x7_11 := keepc h7 (a := ⟨w6.heap.size, 0, none⟩) (v := .int .i64 (a0 + b0)) (by simp [go_sem])
  have x7_12 := keepc h7 (a := ⟨w6.heap.size, 1, none⟩) (v := .int .i64 (a1 + b1)) (by simp [go_sem])
  clear x6_0 x6_1 x6_2 x6_3 x6_4 x6_5 x6_6 x6_7 x6_8 x6_9 x6_10 zx6_0 zx6_1 zx6_2 zx6_3 zx6_4 zx6_5 zx6_6 zx6_7 zx6_8 zx6_9 zx6_10
  have q7 := q6.trans (g7.mono q6.size)
  clear g7 h7 q6
  go_wp2
  go_ret
  exact ⟨rfl, q7⟩

theorem fc_bd (f g : Int × Int) : -1 ≤ fc f g ∧ fc f g ≤ 1 := by
  have o : ∀ a b : Int, -1 ≤ ord a b ∧ ord a b ≤ 1 := fun a b => by unfold ord; repeat' split <;> omega
  unfold fc; split <;> exact o _ _
theorem ord_turn (p q : Int) : ord q p = -ord p q := by unfold ord; repeat' split <;> omega
theorem fc_turn (f g : Int × Int) : fc g f = -fc f g := by
  unfold fc
  by_cases h : f.2 = 0 ∨ g.2 = 0
  · rw [if_pos h, if_pos h.symm, ord_turn]
  · rw [if_neg h, if_neg (fun k => h k.symm), ord_turn]
/-- Is one share not above another one? -/
def Le (f g : Int × Int) : Prop := g.2 = 0 ∨ (0 < f.2 ∧ 0 < g.2 ∧ f.1 * g.2 ≤ g.1 * f.2)
theorem fc_le {f g : Int × Int} (hf : 0 ≤ f.2) (hg : 0 ≤ g.2) : fc f g ≤ 0 ↔ Le f g := by
  unfold fc Le
  by_cases h : f.2 = 0 ∨ g.2 = 0
  · rw [if_pos h]; unfold ord
    repeat' split <;> omega
  · rw [if_neg h]; unfold ord
    have h1 : 0 < f.2 ∧ 0 < g.2 ∧ g.2 ≠ 0 := by omega
    split
    · exact ⟨fun _ => Or.inr ⟨h1.1, h1.2.1, by omega⟩, fun _ => by omega⟩
    · split
      · refine ⟨fun k => by omega, fun k => ?_⟩
        rcases k with k | ⟨_, _, k⟩
        · exact absurd k h1.2.2
        · omega
      · exact ⟨fun _ => Or.inr ⟨h1.1, h1.2.1, by omega⟩, fun _ => by omega⟩
theorem le_trans' {f g h : Int × Int} (hf : 0 ≤ f.2) (hg : 0 ≤ g.2) (hh : 0 ≤ h.2) (h1 : Le f g) (h2 : Le g h) : Le f h := by
  unfold Le at *
  rcases h2 with k | ⟨g0, h0, k⟩
  · exact Or.inl k
  rcases h1 with j | ⟨f0, g0, j⟩
  · omega
  refine Or.inr ⟨f0, h0, ?_⟩
  have e1 : f.1 * h.2 * g.2 = f.1 * g.2 * h.2 := by rw [Int.mul_right_comm]
  have e2 : g.1 * f.2 * h.2 = g.1 * h.2 * f.2 := by rw [Int.mul_right_comm]
  have e3 : h.1 * g.2 * f.2 = h.1 * f.2 * g.2 := by rw [Int.mul_right_comm]
  have g1 := Int.mul_le_mul_of_nonneg_right j (show 0 ≤ h.2 by omega)
  have g2 := Int.mul_le_mul_of_nonneg_right k (show 0 ≤ f.2 by omega)
  exact Int.le_of_mul_le_mul_right (show f.1 * h.2 * g.2 ≤ h.1 * f.2 * g.2 by omega) g0
theorem le_total {f g : Int × Int} (hf : 0 ≤ f.2) (hg : 0 ≤ g.2) (h : ¬ Le f g) : Le g f := by
  rw [← fc_le hf hg] at h
  rw [← fc_le hg hf, fc_turn f g]
  omega
theorem le_refl' (f : Int × Int) (hf : 0 ≤ f.2) : Le f f := by
  unfold Le; by_cases h : f.2 = 0
  · exact Or.inl h
  · exact Or.inr ⟨by omega, by omega, Int.le_refl _⟩
theorem shr_le {a b p : Int} (ha : okp a) (hb : okp b) (hp : okp p) : Le (shr a p) (shr (a + b) p) := by
  unfold okp at ha hb hp
  unfold Le shr
  by_cases h : 0 < p
  · rw [if_pos h, if_pos h]
    exact Or.inr ⟨h, h, Int.mul_le_mul_of_nonneg_right (by simp only; omega) (by simp only; omega)⟩
  · rw [if_neg h, if_neg h]
    by_cases k : 0 < a
    · rw [if_pos k, if_pos (by omega)]; exact Or.inl rfl
    · rw [if_neg k]
      by_cases l : 0 < a + b
      · rw [if_pos l]; exact Or.inl rfl
      · rw [if_neg l]; exact Or.inr ⟨by decide, by decide, by decide⟩
theorem dom_ge {c m p q : Int} (oc : okp c) (om : okp m) (op : okp p) (oq : okp q) : Le (shr c p) (dom c m p q) ∧ Le (shr m q) (dom c m p q) := by
  have f1 := (shr_fr om oq).1.2.1
  have f2 := (shr_fr oc op).1.2.1
  unfold dom
  split
  · rename_i h
    refine ⟨le_total f1 f2 ?_, le_refl' _ f1⟩
    rw [← fc_le f1 f2]; omega
  · rename_i h
    exact ⟨le_refl' _ f2, (fc_le f1 f2).1 (by omega)⟩
theorem dom_le {a0 a1 b0 b1 p q : Int} (h0 : okp a0) (h1 : okp a1) (k0 : okp b0) (k1 : okp b1) (op : okp p) (oq : okp q) (s0 : okp (a0 + b0)) (s1 : okp (a1 + b1)) :
    Le (dom a0 a1 p q) (dom (a0 + b0) (a1 + b1) p q) := by
  have g := dom_ge s0 s1 op oq
  have d := (dom_fr ⟨s0, op⟩ ⟨s1, oq⟩).1.2.1
  have e1 := shr_le h0 k0 op
  have e2 := shr_le h1 k1 oq
  have z1 := (shr_fr h0 op).1.2.1
  have z2 := (shr_fr h1 oq).1.2.1
  have z3 := (shr_fr s0 op).1.2.1
  have z4 := (shr_fr s1 oq).1.2.1
  rw [dom]
  split
  · exact le_trans' z2 z4 d e2 g.2
  · exact le_trans' z1 z3 d e1 g.1
/-- By the same weight. -/
theorem le_scale {f g : Int × Int} {x : Int} (hx : 1 ≤ x) (h : Le f g) : Le (f.1, f.2 * x) (g.1, g.2 * x) := by
  unfold Le at *
  simp only
  rcases h with h | ⟨f0, g0, h⟩
  · left; rw [h, Int.zero_mul]
  · refine Or.inr ⟨Int.mul_pos f0 (by omega), Int.mul_pos g0 (by omega), ?_⟩
    rw [← Int.mul_assoc, ← Int.mul_assoc]
    exact Int.mul_le_mul_of_nonneg_right h (by omega)

theorem leok_swap (a b c d e f p q : Int) : leok d e f a b c p q = leok a b c d e f p q := by
  unfold leok
  simp only [List.all_cons, List.all_nil]
  cases okv (a, b) <;> cases okv (d, e) <;> cases okv (p, q) <;> cases okw c <;> cases okw f <;> rfl
theorem leok_out {c m x d k y p q : Int} (h : leok c m x d k y p q = true) : okv (c, m) = true ∧ okv (d, k) = true ∧ okv (p, q) = true ∧ (1 ≤ x ∧ x ≤ 1048576) ∧ (1 ≤ y ∧ y ≤ 1048576) := by
  unfold leok at h
  simp only [List.all_cons, List.all_nil, Bool.and_true, Bool.and_eq_true] at h
  obtain ⟨⟨h1, h2, h3⟩, h4, h5⟩ := h
  exact ⟨h1, h2, h3, by simpa [okw] using h4, by simpa [okw] using h5⟩
theorem less_all (c m x d k y p q : Int) : ∃ X G, ∀ w : World, Calls Try.prog 14 #[.agg #[.int .i64 c, .int .i64 m], .int .i64 x, .agg #[.int .i64 d, .int .i64 k], .int .i64 y, .agg #[.int .i64 p, .int .i64 q]] w fun e w' =>
      e = .returned (.tuple #[.int .i64 X, .int .i64 G]) ∧ Below w.heap.size w w' := by
  cases h : leok c m x d k y p q
  · exact ⟨0, 1, fun w => less_no c m x d k y p q h w⟩
  · exact ⟨_, 0, fun w => less_yes c m x d k y p q h w⟩
theorem lev_nn {c m p q x : Int} (h0 : okp c) (h1 : okp m) (op : okp p) (oq : okp q) (hx : 1 ≤ x) : 0 ≤ (dom c m p q).2 * x :=
  Int.mul_nonneg (dom_fr ⟨h0, op⟩ ⟨h1, oq⟩).1.2.1 (by omega)
theorem rin_yes {s : Int × Int} (h : okv s = true) : rin s = (s, 0) := by unfold rin; rw [if_pos h]
theorem rin_no {s : Int × Int} (h : ¬ okv s = true) : rin s = ((0, 0), 2) := by unfold rin; rw [if_neg h]
theorem rop_in {a b s : Int × Int} (h : okv a = true) (g : okv b = true) : rop a b s = rin s := by unfold rop; rw [if_pos ⟨h, g⟩]

theorem walk (a0 a1 b0 b1 c0 c1 x y z p q : Int) (w : World) (ha0 : I64 a0) (ha1 : I64 a1) (hb0 : I64 b0) (hb1 : I64 b1) (hc0 : I64 c0) (hc1 : I64 c1) (hx : I64 x) (hy : I64 y) (hz : I64 z) (hp : I64 p) (hq : I64 q) :
    Calls Try.prog 5 #[.agg #[.int .i64 (a0), .int .i64 (a1)], .agg #[.int .i64 (b0), .int .i64 (b1)], .agg #[.int .i64 (c0), .int .i64 (c1)], .agg #[.int .i64 (x), .int .i64 (y), .int .i64 (z)], .agg #[.int .i64 (p), .int .i64 (q)]] w fun e w' => e = .returned (.bool true) ∧ Below w.heap.size w w' := by
  cases e1 : leok a0 a1 x b0 b1 y p q
  · obtain ⟨Z, G, CZ⟩ := less_all b0 b1 y c0 c1 z p q
    obtain ⟨T, H, CT⟩ := less_all a0 a1 x c0 c1 z p q
    exact caseA a0 a1 b0 b1 c0 c1 x y z p q 0 Z T G H 0 0 0 0 w (hid (fun w => less_no _ _ _ _ _ _ _ _ e1 w)) (hid (fun w => less_no _ _ _ _ _ _ _ _ (by rw [leok_swap]; exact e1) w)) (hid CZ) (hid CT)
  have CX := fun w => less_yes a0 a1 x b0 b1 y p q e1 w
  have CY := fun w => less_yes b0 b1 y a0 a1 x p q (by rw [leok_swap]; exact e1) w
  rw [show lev b0 b1 y a0 a1 x p q = -lev a0 a1 x b0 b1 y p q from fc_turn _ _] at CY
  cases e2 : leok b0 b1 y c0 c1 z p q
  · obtain ⟨T, H, CT⟩ := less_all a0 a1 x c0 c1 z p q
    exact caseB a0 a1 b0 b1 c0 c1 x y z p q _ 0 T 0 H 0 0 0 0 w (hid CX) (hid CY) (hid (fun w => less_no _ _ _ _ _ _ _ _ e2 w)) (hid CT)
  have CZ := fun w => less_yes b0 b1 y c0 c1 z p q e2 w
  cases e3 : leok a0 a1 x c0 c1 z p q
  · exact caseC a0 a1 b0 b1 c0 c1 x y z p q _ _ 0 0 0 0 0 0 0 w (hid CX) (hid CY) (hid CZ) (hid (fun w => less_no _ _ _ _ _ _ _ _ e3 w))
  have CT := fun w => less_yes a0 a1 x c0 c1 z p q e3 w
  obtain ⟨o1, o2, o3, ox, oy⟩ := leok_out e1
  obtain ⟨_, o4, _, _, oz⟩ := leok_out e2
  obtain ⟨a2, a3⟩ := okv_true o1
  obtain ⟨b2, b3⟩ := okv_true o2
  obtain ⟨p2, p3⟩ := okv_true o3
  obtain ⟨c2, c3⟩ := okv_true o4
  have n1 := lev_nn a2 a3 p2 p3 ox.1
  have n2 := lev_nn b2 b3 p2 p3 oy.1
  have n3 := lev_nn c2 c3 p2 p3 oz.1
  have tr : lev a0 a1 x b0 b1 y p q ≤ 0 → lev b0 b1 y c0 c1 z p q ≤ 0 → lev a0 a1 x c0 c1 z p q ≤ 0 := fun h1 h2 =>
    (fc_le n1 n3).2 (le_trans' n1 n2 n3 ((fc_le n1 n2).1 h1) ((fc_le n2 n3).1 h2))
  have bx := fc_bd ((dom a0 a1 p q).1, (dom a0 a1 p q).2 * x) ((dom b0 b1 p q).1, (dom b0 b1 p q).2 * y)
  change -1 ≤ lev a0 a1 x b0 b1 y p q ∧ lev a0 a1 x b0 b1 y p q ≤ 1 at bx
  have CA := fun w => vadd_any a0 a1 b0 b1 w
  rw [rop_in o1 o2] at CA
  by_cases hs : okv (a0 + b0, a1 + b1) = true
  · obtain ⟨s2, s3⟩ := okv_true hs
    rw [rin_yes hs] at CA
    have CM := fun w => less_yes a0 a1 x (a0 + b0) (a1 + b1) x p q (by
      unfold leok
      have w1 : okw x = true := by simp only [okw, decide_eq_true_eq]; omega
      simp [o1, o3, hs, w1]) w
    have mm : lev a0 a1 x (a0 + b0) (a1 + b1) x p q ≤ 0 := (fc_le n1 (lev_nn s2 s3 p2 p3 ox.1)).2 (le_scale ox.1 (dom_le a2 a3 b2 b3 p2 p3 s2 s3))
    generalize lev a0 a1 x b0 b1 y p q = X at *
    generalize lev b0 b1 y c0 c1 z p q = Z at *
    generalize lev a0 a1 x c0 c1 z p q = T at *
    by_cases h1 : X ≤ 0
    · by_cases h2 : Z ≤ 0
      · exact case21 a0 a1 b0 b1 c0 c1 x y z p q X Z T 0 0 0 0 0 _ w (hid CX) (hid CY) (hid CZ) (hid CT) bx.1 bx.2 (by simp) (decide_eq_true h1) (decide_eq_true h2) (decide_eq_false (by have := tr h1 h2; omega)) (hid CA) (hid CM) (decide_eq_true mm)
      · exact case11 a0 a1 b0 b1 c0 c1 x y z p q X Z T 0 0 0 0 0 _ w (hid CX) (hid CY) (hid CZ) (hid CT) bx.1 bx.2 (by simp) (decide_eq_true h1) (decide_eq_false h2) (hid CA) (hid CM) (decide_eq_true mm)
    · exact case01 a0 a1 b0 b1 c0 c1 x y z p q X Z T 0 0 0 0 0 _ w (hid CX) (hid CY) (hid CZ) (hid CT) bx.1 bx.2 (by simp) (decide_eq_false h1) (hid CA) (hid CM) (decide_eq_true mm)
  · rw [rin_no hs] at CA
    generalize lev a0 a1 x b0 b1 y p q = X at *
    generalize lev b0 b1 y c0 c1 z p q = Z at *
    generalize lev a0 a1 x c0 c1 z p q = T at *
    by_cases h1 : X ≤ 0
    · by_cases h2 : Z ≤ 0
      · exact case20 a0 a1 b0 b1 c0 c1 x y z p q X Z T 0 0 _ _ _ 0 w (hid CX) (hid CY) (hid CZ) (hid CT) bx.1 bx.2 (by simp) (decide_eq_true h1) (decide_eq_true h2) (decide_eq_false (by have := tr h1 h2; omega)) (hid CA) (by decide)
      · exact case10 a0 a1 b0 b1 c0 c1 x y z p q X Z T 0 0 _ _ _ 0 w (hid CX) (hid CY) (hid CZ) (hid CT) bx.1 bx.2 (by simp) (decide_eq_true h1) (decide_eq_false h2) (hid CA) (by decide)
    · exact case00 a0 a1 b0 b1 c0 c1 x y z p q X Z T 0 0 _ _ _ 0 w (hid CX) (hid CY) (hid CZ) (hid CT) bx.1 bx.2 (by simp) (decide_eq_false h1) (hid CA) (by decide)

theorem own : ownKnob Try.prog.godebug = none := by kernel_rfl
theorem laidOut : laidOutB Try.prog = true := by kernel_rfl

set_option maxRecDepth 100000 in
theorem lifted (os : Os) (started : os.Started) (H : Type) (enc : TypeId × Value → H) :
    ReturnsInHanded {} Try.checked os 5 .any (Rows.vecTurnsSpec.pre6 enc Try.prog Try.f5 Rows.vecTurnsRow.domain false) (Rows.vecTurnsSpec.post enc Try.prog Try.f5 false true false false) := by
  refine returnsInHanded_of_change (C := Try.checked) own started (by kernel_rfl) Try.func5
    (ChangeSpec.witness6 (enc := enc) (C := Try.checked) false ⟨#[], #[.agg #[.int .i64 0, .int .i64 0], .agg #[.int .i64 0, .int .i64 0], .agg #[.int .i64 0, .int .i64 0], .agg #[.int .i64 0, .int .i64 0, .int .i64 0], .agg #[.int .i64 0, .int .i64 0]], []⟩ 8 (by kernel_rfl) (by kernel_rfl) (by kernel_rfl) (by kernel_rfl)) ?_
  intro W base args ds gs before hval0 hW hcnd _
  have hval : ∀ (j : Nat) t v, Try.f5.params[j]? = some t → args[j]? = some v → Value.okWide Try.prog W .any base t v := hval0
  have hW' := hW
  obtain ⟨p, q, hA0, hV, rfl, hfz, hnd⟩ := hW
  have hA : DataW.TrodAll enc Try.prog W 0 (fun _ => true) true Try.f5.params.toList args.toList ds p := hA0
  rw [Try.params5] at hA hval
  obtain ⟨v0, vs0, d0, ds0, p0, q0, hargs, rfl, rfl, h0, r0⟩ := trodAll_cons hA
  obtain ⟨v1, vs1, d1, ds1, p1, q1, rfl, rfl, rfl, h1, r1⟩ := trodAll_cons r0
  obtain ⟨v2, vs2, d2, ds2, p2, q2, rfl, rfl, rfl, h2, r2⟩ := trodAll_cons r1
  obtain ⟨v3, vs3, d3, ds3, p3, q3, rfl, rfl, rfl, h3, r3⟩ := trodAll_cons r2
  obtain ⟨v4, vs4, d4, ds4, p4, q4, rfl, rfl, rfl, h4, r4⟩ := trodAll_cons r3
  obtain ⟨rfl, rfl, rfl⟩ := trodAll_nil r4
  obtain rfl : args = #[v0, v1, v2, v3, v4] := by cases args; simp_all
  obtain ⟨rfl, rfl⟩ := trodVars_none hV
  have lt0 : ∀ x ∈ p0, x.block < W.heap.size := by obtain ⟨m, hm⟩ := h0; exact DataW.trod_lt m _ _ _ hm
  have lt1 : ∀ x ∈ p1, x.block < W.heap.size := by obtain ⟨m, hm⟩ := h1; exact DataW.trod_lt m _ _ _ hm
  have lt2 : ∀ x ∈ p2, x.block < W.heap.size := by obtain ⟨m, hm⟩ := h2; exact DataW.trod_lt m _ _ _ hm
  have lt3 : ∀ x ∈ p3, x.block < W.heap.size := by obtain ⟨m, hm⟩ := h3; exact DataW.trod_lt m _ _ _ hm
  have lt4 : ∀ x ∈ p4, x.block < W.heap.size := by obtain ⟨m, hm⟩ := h4; exact DataW.trod_lt m _ _ _ hm
  obtain ⟨a0_0, a0_1, rfl, w0_0, w0_1⟩ := val_vec2 Try.underlying23 Try.underlying2 Try.underlying2 (by kernel_rfl) (by kernel_rfl) (hval 0 23 v0 rfl rfl) h0
  obtain ⟨a1_0, a1_1, rfl, w1_0, w1_1⟩ := val_vec2 Try.underlying23 Try.underlying2 Try.underlying2 (by kernel_rfl) (by kernel_rfl) (hval 1 23 v1 rfl rfl) h1
  obtain ⟨a2_0, a2_1, rfl, w2_0, w2_1⟩ := val_vec2 Try.underlying23 Try.underlying2 Try.underlying2 (by kernel_rfl) (by kernel_rfl) (hval 2 23 v2 rfl rfl) h2
  obtain ⟨a3_0, a3_1, a3_2, rfl, w3_0, w3_1, w3_2⟩ := val_arr3 Try.underlying34 Try.underlying2 (by kernel_rfl) (by kernel_rfl) (hval 3 34 v3 rfl rfl) h3
  obtain ⟨a4_0, a4_1, rfl, w4_0, w4_1⟩ := val_vec2 Try.underlying23 Try.underlying2 Try.underlying2 (by kernel_rfl) (by kernel_rfl) (hval 4 23 v4 rfl rfl) h4
  clear hA0 hval0
  refine (walk a0_0 a0_1 a1_0 a1_1 a2_0 a2_1 a3_0 a3_1 a3_2 a4_0 a4_1 W w0_0 w0_1 w1_0 w1_1 w2_0 w2_1 w3_0 w3_1 w3_2 w4_0 w4_1).mono fun e W' ⟨he, bel⟩ => ?_
  subst he
  exact ⟨_, rfl, _, _, _, [], _, [], hW', trodAll_mk1 (shut_bool Try.underlying4 _), (trodAll_cons_mk (Below.trod laidOut (by kernel_rfl) (of_decide_eq_true (by kernel_rfl)) h0 bel lt0) (trodAll_cons_mk (Below.trod laidOut (by kernel_rfl) (of_decide_eq_true (by kernel_rfl)) h1 bel lt1) (trodAll_cons_mk (Below.trod laidOut (by kernel_rfl) (of_decide_eq_true (by kernel_rfl)) h2 bel lt2) (trodAll_cons_mk (Below.trod laidOut (by kernel_rfl) (of_decide_eq_true (by kernel_rfl)) h3 bel lt3) (trodAll_cons_mk (Below.trod laidOut (by kernel_rfl) (of_decide_eq_true (by kernel_rfl)) h4 bel lt4) trodAll_mk0))))), rfl, bel.frame _, fun h => by cases h⟩

theorem over : Rows.vecTurnsRow.holds Try.pinned (OpenSpec.ofChange Rows.vecTurnsSpec) :=
  OpenClaim.holds_of_wide 5 Try.f5 rfl rfl rfl rfl rfl rfl rfl ⟨rfl, rfl, rfl, rfl, rfl⟩ rfl rfl rfl rfl rfl (by kernel_rfl) Try.func5 (by kernel_rfl)
    (of_decide_eq_true (by kernel_rfl)) (by unfold Func.isWrapper; first | (rw [if_pos (by decide +kernel)]; kernel_rfl) | (rw [if_neg (by decide +kernel)]; exact ⟨rfl, rfl⟩))
    (fun os started H enc _ => lifted os started H enc)

theorem proved : Rows.VecTurnsSaid := over
#print axioms proved
end Go.Proofs.Ytmajoognpggcpab.vecTurns
