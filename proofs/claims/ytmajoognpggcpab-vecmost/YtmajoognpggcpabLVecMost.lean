/- VecMost: for all amounts of int64 the law's call returns true. No further conditions. -/
import Derived.Test.YtmajoognpggcpabVH
import Derived.Test.YtmajoognpggcpabOpen
namespace Go.Proofs.Ytmajoognpggcpab.vecMost
open Go.ChangeShapes Go.WideShapes Go.ChangeAt Go.RowKit
set_option linter.unusedVariables false

set_option maxHeartbeats 4000000 in
theorem ubad (c m p q N D X Y : Int) (w : World) (CS : Hid (∀ w : World, Calls Try.prog 12 #[.agg #[.int .i64 c, .int .i64 m], .agg #[.int .i64 p, .int .i64 q]] w fun e w' => e = .returned (.tuple #[.int .i64 0, .int .i64 0, .int .i64 1]) ∧ Below w.heap.size w w')) (K1 : Hid (∀ w : World, Calls Try.prog 11 #[.agg #[.int .i64 c, .int .i64 m]] w fun e w' => e = .returned (.int .i64 1) ∧ Below w.heap.size w w')) :
    Calls Try.prog 4 #[.agg #[.int .i64 c, .int .i64 m], .agg #[.int .i64 p, .int .i64 q]] w fun e w' => e = .returned (.bool true) ∧ Below w.heap.size w w' := by
  go_enter Try.func4, Try.ntmps4
  go_wp2_with fail
  refine (awake2_any _).mono ?_
  rintro e w1 ⟨rfl, h1⟩
  have g1 : Below w.heap.size w w1 := Below.trans (by repeat (first | exact Below.refl _ _ | assumption | refine Below.alloc ?_ (by simp <;> omega) _ | refine Below.setCell ?_ (by simp <;> omega) _ | refine Below.drew ?_ | refine below_drewN ?_ _)) (h1.mono (by simp <;> omega))
  have x1_0 := keepc h1 (a := ⟨w.heap.size, 0, none⟩) (v := .int .i64 (c)) (by simp [go_sem])
  have x1_1 := keepc h1 (a := ⟨w.heap.size, 1, none⟩) (v := .int .i64 (m)) (by simp [go_sem])
  have x1_2 := keepc h1 (a := ⟨w.heap.size + 1, 0, none⟩) (v := .int .i64 (p)) (by simp [go_sem])
  have x1_3 := keepc h1 (a := ⟨w.heap.size + 1, 1, none⟩) (v := .int .i64 (q)) (by simp [go_sem])
  have q1 := g1
  clear g1 h1
  go_wp2_with fail
  refine (CS.out _).mono ?_
  rintro e w2 ⟨rfl, h2⟩
  have g2 : Below w1.heap.size w1 w2 := Below.trans (by repeat (first | exact Below.refl _ _ | assumption | refine Below.alloc ?_ (by simp <;> omega) _ | refine Below.setCell ?_ (by simp <;> omega) _ | refine Below.drew ?_ | refine below_drewN ?_ _)) (h2.mono (by simp <;> omega))
  have x2_0 := keepc g2 x1_0
  have x2_1 := keepc g2 x1_1
  have x2_2 := keepc g2 x1_2
  have x2_3 := keepc g2 x1_3
  clear x1_0 x1_1 x1_2 x1_3
  have q2 := q1.trans (g2.mono q1.size)
  clear g2 h2 q1
  go_wp2_with fail
  refine (K1.out _).mono ?_
  rintro e w3 ⟨rfl, h3⟩
  have g3 : Below w2.heap.size w2 w3 := Below.trans (by repeat (first | exact Below.refl _ _ | assumption | refine Below.alloc ?_ (by simp <;> omega) _ | refine Below.setCell ?_ (by simp <;> omega) _ | refine Below.drew ?_ | refine below_drewN ?_ _)) (h3.mono (by simp <;> omega))
  have x3_0 := keepc g3 x2_0
  have x3_1 := keepc g3 x2_1
  have x3_2 := keepc g3 x2_2
  have x3_3 := keepc g3 x2_3
  clear x2_0 x2_1 x2_2 x2_3
  have q3 := q2.trans (g3.mono q2.size)
  clear g3 h3 q2
  go_wp2
  go_ret
  exact ⟨rfl, q3⟩

set_option maxHeartbeats 4000000 in
theorem tbad (c m p q N D X Y : Int) (w : World) (CS : Hid (∀ w : World, Calls Try.prog 12 #[.agg #[.int .i64 c, .int .i64 m], .agg #[.int .i64 p, .int .i64 q]] w fun e w' => e = .returned (.tuple #[.int .i64 0, .int .i64 0, .int .i64 1]) ∧ Below w.heap.size w w')) (K1 : Hid (∀ w : World, Calls Try.prog 11 #[.agg #[.int .i64 c, .int .i64 m]] w fun e w' => e = .returned (.int .i64 0) ∧ Below w.heap.size w w')) (K2 : Hid (∀ w : World, Calls Try.prog 11 #[.agg #[.int .i64 p, .int .i64 q]] w fun e w' => e = .returned (.int .i64 1) ∧ Below w.heap.size w w')) :
    Calls Try.prog 4 #[.agg #[.int .i64 c, .int .i64 m], .agg #[.int .i64 p, .int .i64 q]] w fun e w' => e = .returned (.bool true) ∧ Below w.heap.size w w' := by
  go_enter Try.func4, Try.ntmps4
  go_wp2_with fail
  refine (awake2_any _).mono ?_
  rintro e w1 ⟨rfl, h1⟩
  have g1 : Below w.heap.size w w1 := Below.trans (by repeat (first | exact Below.refl _ _ | assumption | refine Below.alloc ?_ (by simp <;> omega) _ | refine Below.setCell ?_ (by simp <;> omega) _ | refine Below.drew ?_ | refine below_drewN ?_ _)) (h1.mono (by simp <;> omega))
  have x1_0 := keepc h1 (a := ⟨w.heap.size, 0, none⟩) (v := .int .i64 (c)) (by simp [go_sem])
  have x1_1 := keepc h1 (a := ⟨w.heap.size, 1, none⟩) (v := .int .i64 (m)) (by simp [go_sem])
  have x1_2 := keepc h1 (a := ⟨w.heap.size + 1, 0, none⟩) (v := .int .i64 (p)) (by simp [go_sem])
  have x1_3 := keepc h1 (a := ⟨w.heap.size + 1, 1, none⟩) (v := .int .i64 (q)) (by simp [go_sem])
  have q1 := g1
  clear g1 h1
  go_wp2_with fail
  refine (CS.out _).mono ?_
  rintro e w2 ⟨rfl, h2⟩
  have g2 : Below w1.heap.size w1 w2 := Below.trans (by repeat (first | exact Below.refl _ _ | assumption | refine Below.alloc ?_ (by simp <;> omega) _ | refine Below.setCell ?_ (by simp <;> omega) _ | refine Below.drew ?_ | refine below_drewN ?_ _)) (h2.mono (by simp <;> omega))
  have x2_0 := keepc g2 x1_0
  have x2_1 := keepc g2 x1_1
  have x2_2 := keepc g2 x1_2
  have x2_3 := keepc g2 x1_3
  clear x1_0 x1_1 x1_2 x1_3
  have q2 := q1.trans (g2.mono q1.size)
  clear g2 h2 q1
  go_wp2_with fail
  refine (K1.out _).mono ?_
  rintro e w3 ⟨rfl, h3⟩
  have g3 : Below w2.heap.size w2 w3 := Below.trans (by repeat (first | exact Below.refl _ _ | assumption | refine Below.alloc ?_ (by simp <;> omega) _ | refine Below.setCell ?_ (by simp <;> omega) _ | refine Below.drew ?_ | refine below_drewN ?_ _)) (h3.mono (by simp <;> omega))
  have x3_0 := keepc g3 x2_0
  have x3_1 := keepc g3 x2_1
  have x3_2 := keepc g3 x2_2
  have x3_3 := keepc g3 x2_3
  clear x2_0 x2_1 x2_2 x2_3
  have q3 := q2.trans (g3.mono q2.size)
  clear g3 h3 q2
  go_wp2_with fail
  refine (K2.out _).mono ?_
  rintro e w4 ⟨rfl, h4⟩
  have g4 : Below w3.heap.size w3 w4 := Below.trans (by repeat (first | exact Below.refl _ _ | assumption | refine Below.alloc ?_ (by simp <;> omega) _ | refine Below.setCell ?_ (by simp <;> omega) _ | refine Below.drew ?_ | refine below_drewN ?_ _)) (h4.mono (by simp <;> omega))
  have x4_0 := keepc g4 x3_0
  have x4_1 := keepc g4 x3_1
  have x4_2 := keepc g4 x3_2
  have x4_3 := keepc g4 x3_3
  clear x3_0 x3_1 x3_2 x3_3
  have q4 := q3.trans (g4.mono q3.size)
  clear g4 h4 q3
  go_wp2
  go_ret
  exact ⟨rfl, q4⟩

set_option maxHeartbeats 4000000 in
theorem p0d0 (c m p q N D X Y : Int) (w : World) (CS : Hid (∀ w : World, Calls Try.prog 12 #[.agg #[.int .i64 c, .int .i64 m], .agg #[.int .i64 p, .int .i64 q]] w fun e w' => e = .returned (.tuple #[.int .i64 N, .int .i64 D, .int .i64 0]) ∧ Below w.heap.size w w')) (tp : (p == 0) = true) (td : (D == 0) = true) :
    Calls Try.prog 4 #[.agg #[.int .i64 c, .int .i64 m], .agg #[.int .i64 p, .int .i64 q]] w fun e w' => e = .returned (.bool true) ∧ Below w.heap.size w w' := by
  go_enter Try.func4, Try.ntmps4
  go_wp2_with fail
  refine (awake2_any _).mono ?_
  rintro e w1 ⟨rfl, h1⟩
  have g1 : Below w.heap.size w w1 := Below.trans (by repeat (first | exact Below.refl _ _ | assumption | refine Below.alloc ?_ (by simp <;> omega) _ | refine Below.setCell ?_ (by simp <;> omega) _ | refine Below.drew ?_ | refine below_drewN ?_ _)) (h1.mono (by simp <;> omega))
  have x1_0 := keepc h1 (a := ⟨w.heap.size, 0, none⟩) (v := .int .i64 (c)) (by simp [go_sem])
  have x1_1 := keepc h1 (a := ⟨w.heap.size, 1, none⟩) (v := .int .i64 (m)) (by simp [go_sem])
  have x1_2 := keepc h1 (a := ⟨w.heap.size + 1, 0, none⟩) (v := .int .i64 (p)) (by simp [go_sem])
  have x1_3 := keepc h1 (a := ⟨w.heap.size + 1, 1, none⟩) (v := .int .i64 (q)) (by simp [go_sem])
  have q1 := g1
  clear g1 h1
  go_wp2_with fail
  refine (CS.out _).mono ?_
  rintro e w2 ⟨rfl, h2⟩
  have g2 : Below w1.heap.size w1 w2 := Below.trans (by repeat (first | exact Below.refl _ _ | assumption | refine Below.alloc ?_ (by simp <;> omega) _ | refine Below.setCell ?_ (by simp <;> omega) _ | refine Below.drew ?_ | refine below_drewN ?_ _)) (h2.mono (by simp <;> omega))
  have x2_0 := keepc g2 x1_0
  have x2_1 := keepc g2 x1_1
  have x2_2 := keepc g2 x1_2
  have x2_3 := keepc g2 x1_3
  clear x1_0 x1_1 x1_2 x1_3
  have q2 := q1.trans (g2.mono q1.size)
  clear g2 h2 q1
  go_wp2
  go_ret
  exact ⟨rfl, q2⟩

set_option maxHeartbeats 4000000 in
theorem p0c0 (c m p q N D X Y : Int) (w : World) (CS : Hid (∀ w : World, Calls Try.prog 12 #[.agg #[.int .i64 c, .int .i64 m], .agg #[.int .i64 p, .int .i64 q]] w fun e w' => e = .returned (.tuple #[.int .i64 N, .int .i64 D, .int .i64 0]) ∧ Below w.heap.size w w')) (tp : (p == 0) = true) (td : (D == 0) = false) (tc : (c == 0) = true) :
    Calls Try.prog 4 #[.agg #[.int .i64 c, .int .i64 m], .agg #[.int .i64 p, .int .i64 q]] w fun e w' => e = .returned (.bool true) ∧ Below w.heap.size w w' := by
  go_enter Try.func4, Try.ntmps4
  go_wp2_with fail
  refine (awake2_any _).mono ?_
  rintro e w1 ⟨rfl, h1⟩
  have g1 : Below w.heap.size w w1 := Below.trans (by repeat (first | exact Below.refl _ _ | assumption | refine Below.alloc ?_ (by simp <;> omega) _ | refine Below.setCell ?_ (by simp <;> omega) _ | refine Below.drew ?_ | refine below_drewN ?_ _)) (h1.mono (by simp <;> omega))
  have x1_0 := keepc h1 (a := ⟨w.heap.size, 0, none⟩) (v := .int .i64 (c)) (by simp [go_sem])
  have x1_1 := keepc h1 (a := ⟨w.heap.size, 1, none⟩) (v := .int .i64 (m)) (by simp [go_sem])
  have x1_2 := keepc h1 (a := ⟨w.heap.size + 1, 0, none⟩) (v := .int .i64 (p)) (by simp [go_sem])
  have x1_3 := keepc h1 (a := ⟨w.heap.size + 1, 1, none⟩) (v := .int .i64 (q)) (by simp [go_sem])
  have q1 := g1
  clear g1 h1
  go_wp2_with fail
  refine (CS.out _).mono ?_
  rintro e w2 ⟨rfl, h2⟩
  have g2 : Below w1.heap.size w1 w2 := Below.trans (by repeat (first | exact Below.refl _ _ | assumption | refine Below.alloc ?_ (by simp <;> omega) _ | refine Below.setCell ?_ (by simp <;> omega) _ | refine Below.drew ?_ | refine below_drewN ?_ _)) (h2.mono (by simp <;> omega))
  have x2_0 := keepc g2 x1_0
  have x2_1 := keepc g2 x1_1
  have x2_2 := keepc g2 x1_2
  have x2_3 := keepc g2 x1_3
  clear x1_0 x1_1 x1_2 x1_3
  have q2 := q1.trans (g2.mono q1.size)
  clear g2 h2 q1
  go_wp2
  go_ret
  exact ⟨rfl, q2⟩

set_option maxHeartbeats 4000000 in
theorem q0d0 (c m p q N D X Y : Int) (w : World) (CS : Hid (∀ w : World, Calls Try.prog 12 #[.agg #[.int .i64 c, .int .i64 m], .agg #[.int .i64 p, .int .i64 q]] w fun e w' => e = .returned (.tuple #[.int .i64 N, .int .i64 D, .int .i64 0]) ∧ Below w.heap.size w w')) (tp : (p == 0) = false) (tq : (q == 0) = true) (td : (D == 0) = true) :
    Calls Try.prog 4 #[.agg #[.int .i64 c, .int .i64 m], .agg #[.int .i64 p, .int .i64 q]] w fun e w' => e = .returned (.bool true) ∧ Below w.heap.size w w' := by
  go_enter Try.func4, Try.ntmps4
  go_wp2_with fail
  refine (awake2_any _).mono ?_
  rintro e w1 ⟨rfl, h1⟩
  have g1 : Below w.heap.size w w1 := Below.trans (by repeat (first | exact Below.refl _ _ | assumption | refine Below.alloc ?_ (by simp <;> omega) _ | refine Below.setCell ?_ (by simp <;> omega) _ | refine Below.drew ?_ | refine below_drewN ?_ _)) (h1.mono (by simp <;> omega))
  have x1_0 := keepc h1 (a := ⟨w.heap.size, 0, none⟩) (v := .int .i64 (c)) (by simp [go_sem])
  have x1_1 := keepc h1 (a := ⟨w.heap.size, 1, none⟩) (v := .int .i64 (m)) (by simp [go_sem])
  have x1_2 := keepc h1 (a := ⟨w.heap.size + 1, 0, none⟩) (v := .int .i64 (p)) (by simp [go_sem])
  have x1_3 := keepc h1 (a := ⟨w.heap.size + 1, 1, none⟩) (v := .int .i64 (q)) (by simp [go_sem])
  have q1 := g1
  clear g1 h1
  go_wp2_with fail
  refine (CS.out _).mono ?_
  rintro e w2 ⟨rfl, h2⟩
  have g2 : Below w1.heap.size w1 w2 := Below.trans (by repeat (first | exact Below.refl _ _ | assumption | refine Below.alloc ?_ (by simp <;> omega) _ | refine Below.setCell ?_ (by simp <;> omega) _ | refine Below.drew ?_ | refine below_drewN ?_ _)) (h2.mono (by simp <;> omega))
  have x2_0 := keepc g2 x1_0
  have x2_1 := keepc g2 x1_1
  have x2_2 := keepc g2 x1_2
  have x2_3 := keepc g2 x1_3
  clear x1_0 x1_1 x1_2 x1_3
  have q2 := q1.trans (g2.mono q1.size)
  clear g2 h2 q1
  go_wp2
  go_ret
  exact ⟨rfl, q2⟩

set_option maxHeartbeats 4000000 in
theorem q0m0 (c m p q N D X Y : Int) (w : World) (CS : Hid (∀ w : World, Calls Try.prog 12 #[.agg #[.int .i64 c, .int .i64 m], .agg #[.int .i64 p, .int .i64 q]] w fun e w' => e = .returned (.tuple #[.int .i64 N, .int .i64 D, .int .i64 0]) ∧ Below w.heap.size w w')) (tp : (p == 0) = false) (tq : (q == 0) = true) (td : (D == 0) = false) (tm : (m == 0) = true) :
    Calls Try.prog 4 #[.agg #[.int .i64 c, .int .i64 m], .agg #[.int .i64 p, .int .i64 q]] w fun e w' => e = .returned (.bool true) ∧ Below w.heap.size w w' := by
  go_enter Try.func4, Try.ntmps4
  go_wp2_with fail
  refine (awake2_any _).mono ?_
  rintro e w1 ⟨rfl, h1⟩
  have g1 : Below w.heap.size w w1 := Below.trans (by repeat (first | exact Below.refl _ _ | assumption | refine Below.alloc ?_ (by simp <;> omega) _ | refine Below.setCell ?_ (by simp <;> omega) _ | refine Below.drew ?_ | refine below_drewN ?_ _)) (h1.mono (by simp <;> omega))
  have x1_0 := keepc h1 (a := ⟨w.heap.size, 0, none⟩) (v := .int .i64 (c)) (by simp [go_sem])
  have x1_1 := keepc h1 (a := ⟨w.heap.size, 1, none⟩) (v := .int .i64 (m)) (by simp [go_sem])
  have x1_2 := keepc h1 (a := ⟨w.heap.size + 1, 0, none⟩) (v := .int .i64 (p)) (by simp [go_sem])
  have x1_3 := keepc h1 (a := ⟨w.heap.size + 1, 1, none⟩) (v := .int .i64 (q)) (by simp [go_sem])
  have q1 := g1
  clear g1 h1
  go_wp2_with fail
  refine (CS.out _).mono ?_
  rintro e w2 ⟨rfl, h2⟩
  have g2 : Below w1.heap.size w1 w2 := Below.trans (by repeat (first | exact Below.refl _ _ | assumption | refine Below.alloc ?_ (by simp <;> omega) _ | refine Below.setCell ?_ (by simp <;> omega) _ | refine Below.drew ?_ | refine below_drewN ?_ _)) (h2.mono (by simp <;> omega))
  have x2_0 := keepc g2 x1_0
  have x2_1 := keepc g2 x1_1
  have x2_2 := keepc g2 x1_2
  have x2_3 := keepc g2 x1_3
  clear x1_0 x1_1 x1_2 x1_3
  have q2 := q1.trans (g2.mono q1.size)
  clear g2 h2 q1
  go_wp2
  go_ret
  exact ⟨rfl, q2⟩

set_option maxHeartbeats 4000000 in
theorem x0 (c m p q N D X Y : Int) (w : World) (CS : Hid (∀ w : World, Calls Try.prog 12 #[.agg #[.int .i64 c, .int .i64 m], .agg #[.int .i64 p, .int .i64 q]] w fun e w' => e = .returned (.tuple #[.int .i64 N, .int .i64 D, .int .i64 0]) ∧ Below w.heap.size w w')) (tp : (p == 0) = false) (tq : (q == 0) = false) (C1 : Hid (∀ w : World, Calls Try.prog 13 #[.int .i64 c, .int .i64 p, .int .i64 N, .int .i64 D] w fun e w' => e = .returned (.tuple #[.int .i64 X, .int .i64 0]) ∧ Below w.heap.size w w')) (C2 : Hid (∀ w : World, Calls Try.prog 13 #[.int .i64 m, .int .i64 q, .int .i64 N, .int .i64 D] w fun e w' => e = .returned (.tuple #[.int .i64 Y, .int .i64 0]) ∧ Below w.heap.size w w')) (x1 : decide (X ≤ 0) = true) (y1 : decide (Y ≤ 0) = true) (x2 : (X == 0) = true) :
    Calls Try.prog 4 #[.agg #[.int .i64 c, .int .i64 m], .agg #[.int .i64 p, .int .i64 q]] w fun e w' => e = .returned (.bool true) ∧ Below w.heap.size w w' := by
  go_enter Try.func4, Try.ntmps4
  go_wp2_with fail
  refine (awake2_any _).mono ?_
  rintro e w1 ⟨rfl, h1⟩
  have g1 : Below w.heap.size w w1 := Below.trans (by repeat (first | exact Below.refl _ _ | assumption | refine Below.alloc ?_ (by simp <;> omega) _ | refine Below.setCell ?_ (by simp <;> omega) _ | refine Below.drew ?_ | refine below_drewN ?_ _)) (h1.mono (by simp <;> omega))
  have x1_0 := keepc h1 (a := ⟨w.heap.size, 0, none⟩) (v := .int .i64 (c)) (by simp [go_sem])
  have x1_1 := keepc h1 (a := ⟨w.heap.size, 1, none⟩) (v := .int .i64 (m)) (by simp [go_sem])
  have x1_2 := keepc h1 (a := ⟨w.heap.size + 1, 0, none⟩) (v := .int .i64 (p)) (by simp [go_sem])
  have x1_3 := keepc h1 (a := ⟨w.heap.size + 1, 1, none⟩) (v := .int .i64 (q)) (by simp [go_sem])
  have q1 := g1
  clear g1 h1
  go_wp2_with fail
  refine (CS.out _).mono ?_
  rintro e w2 ⟨rfl, h2⟩
  have g2 : Below w1.heap.size w1 w2 := Below.trans (by repeat (first | exact Below.refl _ _ | assumption | refine Below.alloc ?_ (by simp <;> omega) _ | refine Below.setCell ?_ (by simp <;> omega) _ | refine Below.drew ?_ | refine below_drewN ?_ _)) (h2.mono (by simp <;> omega))
  have x2_0 := keepc g2 x1_0
  have x2_1 := keepc g2 x1_1
  have x2_2 := keepc g2 x1_2
  have x2_3 := keepc g2 x1_3
  clear x1_0 x1_1 x1_2 x1_3
  have q2 := q1.trans (g2.mono q1.size)
  clear g2 h2 q1
  go_wp2_with fail
  refine (C1.out _).mono ?_
  rintro e w3 ⟨rfl, h3⟩
  have g3 : Below w2.heap.size w2 w3 := Below.trans (by repeat (first | exact Below.refl _ _ | assumption | refine Below.alloc ?_ (by simp <;> omega) _ | refine Below.setCell ?_ (by simp <;> omega) _ | refine Below.drew ?_ | refine below_drewN ?_ _)) (h3.mono (by simp <;> omega))
  have x3_0 := keepc g3 x2_0
  have x3_1 := keepc g3 x2_1
  have x3_2 := keepc g3 x2_2
  have x3_3 := keepc g3 x2_3
  clear x2_0 x2_1 x2_2 x2_3
  have q3 := q2.trans (g3.mono q2.size)
  clear g3 h3 q2
  go_wp2_with fail
  refine (C2.out _).mono ?_
  rintro e w4 ⟨rfl, h4⟩
  have g4 : Below w3.heap.size w3 w4 := Below.trans (by repeat (first | exact Below.refl _ _ | assumption | refine Below.alloc ?_ (by simp <;> omega) _ | refine Below.setCell ?_ (by simp <;> omega) _ | refine Below.drew ?_ | refine below_drewN ?_ _)) (h4.mono (by simp <;> omega))
  have x4_0 := keepc g4 x3_0
  have x4_1 := keepc g4 x3_1
  have x4_2 := keepc g4 x3_2
  have x4_3 := keepc g4 x3_3
  clear x3_0 x3_1 x3_2 x3_3
  have q4 := q3.trans (g4.mono q3.size)
  clear g4 h4 q3
  go_wp2
  go_ret
  exact ⟨rfl, q4⟩

set_option maxHeartbeats 4000000 in
theorem y0 (c m p q N D X Y : Int) (w : World) (CS : Hid (∀ w : World, Calls Try.prog 12 #[.agg #[.int .i64 c, .int .i64 m], .agg #[.int .i64 p, .int .i64 q]] w fun e w' => e = .returned (.tuple #[.int .i64 N, .int .i64 D, .int .i64 0]) ∧ Below w.heap.size w w')) (tp : (p == 0) = false) (tq : (q == 0) = false) (C1 : Hid (∀ w : World, Calls Try.prog 13 #[.int .i64 c, .int .i64 p, .int .i64 N, .int .i64 D] w fun e w' => e = .returned (.tuple #[.int .i64 X, .int .i64 0]) ∧ Below w.heap.size w w')) (C2 : Hid (∀ w : World, Calls Try.prog 13 #[.int .i64 m, .int .i64 q, .int .i64 N, .int .i64 D] w fun e w' => e = .returned (.tuple #[.int .i64 Y, .int .i64 0]) ∧ Below w.heap.size w w')) (x1 : decide (X ≤ 0) = true) (y1 : decide (Y ≤ 0) = true) (x2 : (X == 0) = false) (y2 : (Y == 0) = true) :
    Calls Try.prog 4 #[.agg #[.int .i64 c, .int .i64 m], .agg #[.int .i64 p, .int .i64 q]] w fun e w' => e = .returned (.bool true) ∧ Below w.heap.size w w' := by
  go_enter Try.func4, Try.ntmps4
  go_wp2_with fail
  refine (awake2_any _).mono ?_
  rintro e w1 ⟨rfl, h1⟩
  have g1 : Below w.heap.size w w1 := Below.trans (by repeat (first | exact Below.refl _ _ | assumption | refine Below.alloc ?_ (by simp <;> omega) _ | refine Below.setCell ?_ (by simp <;> omega) _ | refine Below.drew ?_ | refine below_drewN ?_ _)) (h1.mono (by simp <;> omega))
  have x1_0 := keepc h1 (a := ⟨w.heap.size, 0, none⟩) (v := .int .i64 (c)) (by simp [go_sem])
  have x1_1 := keepc h1 (a := ⟨w.heap.size, 1, none⟩) (v := .int .i64 (m)) (by simp [go_sem])
  have x1_2 := keepc h1 (a := ⟨w.heap.size + 1, 0, none⟩) (v := .int .i64 (p)) (by simp [go_sem])
  have x1_3 := keepc h1 (a := ⟨w.heap.size + 1, 1, none⟩) (v := .int .i64 (q)) (by simp [go_sem])
  have q1 := g1
  clear g1 h1
  go_wp2_with fail
  refine (CS.out _).mono ?_
  rintro e w2 ⟨rfl, h2⟩
  have g2 : Below w1.heap.size w1 w2 := Below.trans (by repeat (first | exact Below.refl _ _ | assumption | refine Below.alloc ?_ (by simp <;> omega) _ | refine Below.setCell ?_ (by simp <;> omega) _ | refine Below.drew ?_ | refine below_drewN ?_ _)) (h2.mono (by simp <;> omega))
  have x2_0 := keepc g2 x1_0
  have x2_1 := keepc g2 x1_1
  have x2_2 := keepc g2 x1_2
  have x2_3 := keepc g2 x1_3
  clear x1_0 x1_1 x1_2 x1_3
  have q2 := q1.trans (g2.mono q1.size)
  clear g2 h2 q1
  go_wp2_with fail
  refine (C1.out _).mono ?_
  rintro e w3 ⟨rfl, h3⟩
  have g3 : Below w2.heap.size w2 w3 := Below.trans (by repeat (first | exact Below.refl _ _ | assumption | refine Below.alloc ?_ (by simp <;> omega) _ | refine Below.setCell ?_ (by simp <;> omega) _ | refine Below.drew ?_ | refine below_drewN ?_ _)) (h3.mono (by simp <;> omega))
  have x3_0 := keepc g3 x2_0
  have x3_1 := keepc g3 x2_1
  have x3_2 := keepc g3 x2_2
  have x3_3 := keepc g3 x2_3
  clear x2_0 x2_1 x2_2 x2_3
  have q3 := q2.trans (g3.mono q2.size)
  clear g3 h3 q2
  go_wp2_with fail
  refine (C2.out _).mono ?_
  rintro e w4 ⟨rfl, h4⟩
  have g4 : Below w3.heap.size w3 w4 := Below.trans (by repeat (first | exact Below.refl _ _ | assumption | refine Below.alloc ?_ (by simp <;> omega) _ | refine Below.setCell ?_ (by simp <;> omega) _ | refine Below.drew ?_ | refine below_drewN ?_ _)) (h4.mono (by simp <;> omega))
  have x4_0 := keepc g4 x3_0
  have x4_1 := keepc g4 x3_1
  have x4_2 := keepc g4 x3_2
  have x4_3 := keepc g4 x3_3
  clear x3_0 x3_1 x3_2 x3_3
  have q4 := q3.trans (g4.mono q3.size)
  clear g4 h4 q3
  go_wp2
  go_ret
  exact ⟨rfl, q4⟩

theorem cmp_ok (a b c d : Int) (ha : I64 a) (hb : I64 b) (hc : I64 c) (hd : I64 d) (h1 : 1 ≤ b) (h2 : 1 ≤ d) (w : World) :
    Calls Try.prog 13 #[.int .i64 a, .int .i64 b, .int .i64 c, .int .i64 d] w fun e w' => e = .returned (.tuple #[.int .i64 (ord (a * d) (c * b)), .int .i64 0]) ∧ Below w.heap.size w w' := by
  have h := cmp_any a b c d ha hb hc hd w
  rw [show cmpv a b c d = ord (a * d) (c * b) by unfold cmpv; rw [if_neg (by omega)], show cmpe b d = 0 by unfold cmpe; rw [if_neg (by omega)]] at h
  exact h

theorem walk (c m p q : Int) (w : World) (hc : I64 c) (hm : I64 m) (hp : I64 p) (hq : I64 q) :
    Calls Try.prog 4 #[.agg #[.int .i64 c, .int .i64 m], .agg #[.int .i64 p, .int .i64 q]] w fun e w' => e = .returned (.bool true) ∧ Below w.heap.size w w' := by
  have CS := fun w => vshare_any c m p q w
  have K1 := fun w => check_any c m w
  have K2 := fun w => check_any p q w
  by_cases h : okv (c, m) = true ∧ okv (p, q) = true
  · rw [show shv c m p q = ((dom c m p q).1, (dom c m p q).2, 0) by unfold shv; rw [if_pos h]] at CS
    obtain ⟨a1, a2⟩ := okv_true h.1
    obtain ⟨a3, a4⟩ := okv_true h.2
    simp only [okp] at a1 a2 a3 a4
    by_cases p0 : p = 0
    · by_cases d0 : (dom c m p q).2 = 0
      · exact p0d0 c m p q _ _ 0 0 w (hid CS) (by simp [p0]) (by simp [d0])
      · by_cases c0 : c = 0
        · exact p0c0 c m p q _ _ 0 0 w (hid CS) (by simp [p0]) (by simp [d0]) (by simp [c0])
        · refine absurd ?_ d0
          have e : shr c p = (1, 0) := by unfold shr; rw [if_neg (by omega), if_pos (by omega)]
          unfold dom
          rw [e]
          split
          · rename_i g
            unfold fc at g
            rw [if_pos (Or.inr rfl)] at g
            unfold ord at g
            unfold shr
            by_cases q0 : 0 < q
            · unfold shr at g; rw [if_pos q0] at g; simp at g; omega
            · rw [if_neg q0]
              unfold shr at g
              rw [if_neg q0] at g
              split
              · rfl
              · rename_i k; rw [if_neg k] at g; simp at g
          · rfl
    · by_cases q0 : q = 0
      · by_cases d0 : (dom c m p q).2 = 0
        · exact q0d0 c m p q _ _ 0 0 w (hid CS) (by simp [p0]) (by simp [q0]) (by simp [d0])
        · by_cases m0 : m = 0
          · exact q0m0 c m p q _ _ 0 0 w (hid CS) (by simp [p0]) (by simp [q0]) (by simp [d0]) (by simp [m0])
          · refine absurd ?_ d0
            have e : shr m q = (1, 0) := by unfold shr; rw [if_neg (by omega), if_pos (by omega)]
            have e' : shr c p = (c, p) := by unfold shr; rw [if_pos (by omega)]
            unfold dom
            rw [e, e', if_pos]
            unfold fc ord
            simp only
            rw [if_pos (Or.inl trivial), if_neg (by omega), if_pos (by omega)]
            omega
      · have e : shr m q = (m, q) := by unfold shr; rw [if_pos (by omega)]
        have e' : shr c p = (c, p) := by unfold shr; rw [if_pos (by omega)]
        have f : fc (m, q) (c, p) = ord (m * p) (c * q) := by unfold fc; simp only; rw [if_neg (by omega)]
        have dd : dom c m p q = if 0 < ord (m * p) (c * q) then (m, q) else (c, p) := by unfold dom; rw [e, e', f]
        rw [dd] at CS
        by_cases g : 0 < ord (m * p) (c * q)
        · rw [if_pos g] at CS
          have C1 := fun w => cmp_ok c p m q hc hp hm hq (by omega) (by omega) w
          have C2 := fun w => cmp_ok m q m q hm hq hm hq (by omega) (by omega) w
          have lt : c * q < m * p := by unfold ord at g; split at g <;> omega
          rw [show ord (c * q) (m * p) = -1 by unfold ord; rw [if_pos lt]] at C1
          rw [show ord (m * q) (m * q) = 0 by unfold ord; rw [if_neg (by omega), if_neg (by omega)]] at C2
          exact y0 c m p q _ _ _ _ w (hid CS) (by simp [p0]) (by simp [q0]) (hid C1) (hid C2) (by decide) (by decide) (by decide) (by decide)
        · rw [if_neg g] at CS
          have C1 := fun w => cmp_ok c p c p hc hp hc hp (by omega) (by omega) w
          have C2 := fun w => cmp_ok m q c p hm hq hc hp (by omega) (by omega) w
          rw [show ord (c * p) (c * p) = 0 by unfold ord; rw [if_neg (by omega), if_neg (by omega)]] at C1
          exact x0 c m p q _ _ _ _ w (hid CS) (by simp [p0]) (by simp [q0]) (hid C1) (hid C2) (by decide) (by simp; omega) (by decide)
  · rw [show shv c m p q = (0, 0, 1) by unfold shv; rw [if_neg h]] at CS
    by_cases hu : okv (c, m) = true
    · rw [chk_ok hu] at K1
      rw [chk_no (by have : ¬ okv (p, q) = true := fun k => h ⟨hu, k⟩
                     simpa using this)] at K2
      exact tbad c m p q 0 0 0 0 w (hid CS) (hid K1) (hid K2)
    · rw [chk_no (by simpa using hu)] at K1
      exact ubad c m p q 0 0 0 0 w (hid CS) (hid K1)

theorem own : ownKnob Try.prog.godebug = none := by kernel_rfl
theorem laidOut : laidOutB Try.prog = true := by kernel_rfl

set_option maxRecDepth 100000 in
theorem lifted (os : Os) (started : os.Started) (H : Type) (enc : TypeId × Value → H) :
    ReturnsInHanded {} Try.checked os 4 .any (Rows.vecMostSpec.pre6 enc Try.prog Try.f4 Rows.vecMostRow.domain false) (Rows.vecMostSpec.post enc Try.prog Try.f4 false true false false) := by
  refine returnsInHanded_of_change (C := Try.checked) own started (by kernel_rfl) Try.func4
    (ChangeSpec.witness6 (enc := enc) (C := Try.checked) false ⟨#[], #[.agg #[.int .i64 0, .int .i64 0], .agg #[.int .i64 0, .int .i64 0]], []⟩ 8 (by kernel_rfl) (by kernel_rfl) (by kernel_rfl) (by kernel_rfl)) ?_
  intro W base args ds gs before hval0 hW hcnd _
  have hval : ∀ (j : Nat) t v, Try.f4.params[j]? = some t → args[j]? = some v → Value.okWide Try.prog W .any base t v := hval0
  have hW' := hW
  obtain ⟨p, q, hA0, hV, rfl, hfz, hnd⟩ := hW
  have hA : DataW.TrodAll enc Try.prog W 0 (fun _ => true) true Try.f4.params.toList args.toList ds p := hA0
  rw [Try.params4] at hA hval
  obtain ⟨v0, vs0, d0, ds0, p0, q0, hargs, rfl, rfl, h0, r0⟩ := trodAll_cons hA
  obtain ⟨v1, vs1, d1, ds1, p1, q1, rfl, rfl, rfl, h1, r1⟩ := trodAll_cons r0
  obtain ⟨rfl, rfl, rfl⟩ := trodAll_nil r1
  obtain rfl : args = #[v0, v1] := by cases args; simp_all
  obtain ⟨rfl, rfl⟩ := trodVars_none hV
  have lt0 : ∀ x ∈ p0, x.block < W.heap.size := by obtain ⟨m, hm⟩ := h0; exact DataW.trod_lt m _ _ _ hm
  have lt1 : ∀ x ∈ p1, x.block < W.heap.size := by obtain ⟨m, hm⟩ := h1; exact DataW.trod_lt m _ _ _ hm
  obtain ⟨a0_0, a0_1, rfl, w0_0, w0_1⟩ := val_vec2 Try.underlying23 Try.underlying2 Try.underlying2 (by kernel_rfl) (by kernel_rfl) (hval 0 23 v0 rfl rfl) h0
  obtain ⟨a1_0, a1_1, rfl, w1_0, w1_1⟩ := val_vec2 Try.underlying23 Try.underlying2 Try.underlying2 (by kernel_rfl) (by kernel_rfl) (hval 1 23 v1 rfl rfl) h1
  clear hA0 hval0
  refine (walk a0_0 a0_1 a1_0 a1_1 W w0_0 w0_1 w1_0 w1_1).mono fun e W' ⟨he, bel⟩ => ?_
  subst he
  exact ⟨_, rfl, _, _, _, [], _, [], hW', trodAll_mk1 (shut_bool Try.underlying4 _), (trodAll_cons_mk (Below.trod laidOut (by kernel_rfl) (of_decide_eq_true (by kernel_rfl)) h0 bel lt0) (trodAll_cons_mk (Below.trod laidOut (by kernel_rfl) (of_decide_eq_true (by kernel_rfl)) h1 bel lt1) trodAll_mk0)), rfl, bel.frame _, fun h => by cases h⟩

theorem over : Rows.vecMostRow.holds Try.pinned (OpenSpec.ofChange Rows.vecMostSpec) :=
  OpenClaim.holds_of_wide 4 Try.f4 rfl rfl rfl rfl rfl rfl rfl ⟨rfl, rfl, rfl, rfl, rfl⟩ rfl rfl rfl rfl rfl (by kernel_rfl) Try.func4 (by kernel_rfl)
    (of_decide_eq_true (by kernel_rfl)) (by unfold Func.isWrapper; first | (rw [if_pos (by decide +kernel)]; kernel_rfl) | (rw [if_neg (by decide +kernel)]; exact ⟨rfl, rfl⟩))
    (fun os started H enc _ => lifted os started H enc)

theorem proved : Rows.VecMostSaid := over
#print axioms proved
end Go.Proofs.Ytmajoognpggcpab.vecMost
