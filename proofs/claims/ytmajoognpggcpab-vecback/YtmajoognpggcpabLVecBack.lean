/- VecBack: for all amounts a, b of int64 the law's call returns true. No further conditions. -/
import Derived.Test.YtmajoognpggcpabVH
import Derived.Test.YtmajoognpggcpabOpen
namespace Go.Proofs.Ytmajoognpggcpab.vecBack
open Go.ChangeShapes Go.WideShapes Go.ChangeAt Go.RowKit
set_option linter.unusedVariables false

set_option maxHeartbeats 4000000 in
theorem case1 (c m d k X Y E U V F : Int) (w : World)
    (CA : Hid (∀ w : World, Calls Try.prog 8 #[.agg #[.int .i64 (c), .int .i64 (m)], .agg #[.int .i64 (d), .int .i64 (k)]] w fun e w' => e = .returned (.tuple #[.agg #[.int .i64 (c + d), .int .i64 (m + k)], .int .i64 (0)]) ∧ Below w.heap.size w w'))
    (CS : Hid (∀ w : World, Calls Try.prog 9 #[.agg #[.int .i64 (c + d), .int .i64 (m + k)], .agg #[.int .i64 (d), .int .i64 (k)]] w fun e w' => e = .returned (.tuple #[.agg #[.int .i64 (c), .int .i64 (m)], .int .i64 (0)]) ∧ Below w.heap.size w w'))
    (F1 : Hid (∀ w : World, Calls Try.prog 10 #[.agg #[.int .i64 (c), .int .i64 (m)], .agg #[.int .i64 (c + d), .int .i64 (m + k)]] w fun e w' => e = .returned (.bool true) ∧ Below w.heap.size w w'))
    (F2 : Hid (∀ w : World, Calls Try.prog 10 #[.agg #[.int .i64 (d), .int .i64 (k)], .agg #[.int .i64 (c + d), .int .i64 (m + k)]] w fun e w' => e = .returned (.bool true) ∧ Below w.heap.size w w'))
    (K1 : Hid (∀ w : World, Calls Try.prog 11 #[.agg #[.int .i64 (c + d), .int .i64 (m + k)]] w fun e w' => e = .returned (.int .i64 0) ∧ Below w.heap.size w w'))
    (CD : Hid (∀ w : World, Calls Try.prog 9 #[.agg #[.int .i64 (c), .int .i64 (m)], .agg #[.int .i64 (d), .int .i64 (k)]] w fun e w' => e = .returned (.tuple #[.agg #[.int .i64 (U), .int .i64 (V)], .int .i64 (0)]) ∧ Below w.heap.size w w'))
    (F3 : Hid (∀ w : World, Calls Try.prog 10 #[.agg #[.int .i64 (d), .int .i64 (k)], .agg #[.int .i64 (c), .int .i64 (m)]] w fun e w' => e = .returned (.bool true) ∧ Below w.heap.size w w'))
    (F4 : Hid (∀ w : World, Calls Try.prog 10 #[.agg #[.int .i64 (U), .int .i64 (V)], .agg #[.int .i64 (c), .int .i64 (m)]] w fun e w' => e = .returned (.bool true) ∧ Below w.heap.size w w'))
   :
    Calls Try.prog 3 #[.agg #[.int .i64 c, .int .i64 m], .agg #[.int .i64 d, .int .i64 k]] w fun e w' => e = .returned (.bool true) ∧ Below w.heap.size w w' := by
  go_enter Try.func3, Try.ntmps3
  go_wp2_with fail
  refine (awake2_any _).mono ?_
  rintro e w1 ⟨rfl, h1⟩
  have g1 : Below w.heap.size w w1 := Below.trans (by repeat (first | exact Below.refl _ _ | assumption | refine Below.alloc ?_ (by simp <;> omega) _ | refine Below.setCell ?_ (by simp <;> omega) _ | refine Below.drew ?_ | refine below_drewN ?_ _)) (h1.mono (by simp <;> omega))
  have x1_0 := keepc h1 (a := ⟨w.heap.size, 0, none⟩) (v := .int .i64 (c)) (by simp [go_sem])
  have x1_1 := keepc h1 (a := ⟨w.heap.size, 1, none⟩) (v := .int .i64 (m)) (by simp [go_sem])
  have x1_2 := keepc h1 (a := ⟨w.heap.size + 1, 0, none⟩) (v := .int .i64 (d)) (by simp [go_sem])
  have x1_3 := keepc h1 (a := ⟨w.heap.size + 1, 1, none⟩) (v := .int .i64 (k)) (by simp [go_sem])
  have q1 := g1
  clear g1 h1
  go_wp2_with fail
  refine (CA.out _).mono ?_
  rintro e w2 ⟨rfl, h2⟩
  have g2 : Below w1.heap.size w1 w2 := Below.trans (by repeat (first | exact Below.refl _ _ | assumption | refine Below.alloc ?_ (by simp <;> omega) _ | refine Below.setCell ?_ (by simp <;> omega) _ | refine Below.drew ?_ | refine below_drewN ?_ _)) (h2.mono (by simp <;> omega))
  have x2_0 := keepc g2 x1_0
  have x2_1 := keepc g2 x1_1
  have x2_2 := keepc g2 x1_2
  have x2_3 := keepc g2 x1_3
  clear x1_0 x1_1 x1_2 x1_3
  have q2 := q1.trans (g2.mono q1.size)
  clear g2 h2 q1
  have gg : Below w2.heap.size w2 (w2.alloc (.cells #[.int .i64 (c + d), .int .i64 (m + k)] 23)) := (by repeat (first | exact Below.refl _ _ | assumption | refine Below.alloc ?_ (by simp <;> omega) _ | refine Below.setCell ?_ (by simp <;> omega) _ | refine Below.drew ?_ | refine below_drewN ?_ _))
  have zx2_0 := keepc gg x2_0
  have zx2_1 := keepc gg x2_1
  have zx2_2 := keepc gg x2_2
  have zx2_3 := keepc gg x2_3
  clear gg
  go_wp2_with fail
  refine (CS.out _).mono ?_
  rintro e w3 ⟨rfl, h3⟩
  have g3 : Below w2.heap.size w2 w3 := Below.trans (by repeat (first | exact Below.refl _ _ | assumption | refine Below.alloc ?_ (by simp <;> omega) _ | refine Below.setCell ?_ (by simp <;> omega) _ | refine Below.drew ?_ | refine below_drewN ?_ _)) (h3.mono (by simp <;> omega))
  have x3_0 := keepc g3 x2_0
  have x3_1 := keepc g3 x2_1
  have x3_2 := keepc g3 x2_2
  have x3_3 := keepc g3 x2_3
  have x3_4 := keepc h3 (a := ⟨w2.heap.size, 0, none⟩) (v := .int .i64 (c + d)) (by simp [go_sem])
  have x3_5 := keepc h3 (a := ⟨w2.heap.size, 1, none⟩) (v := .int .i64 (m + k)) (by simp [go_sem])
  clear x2_0 x2_1 x2_2 x2_3 zx2_0 zx2_1 zx2_2 zx2_3
  have q3 := q2.trans (g3.mono q2.size)
  clear g3 h3 q2
  have gg : Below w3.heap.size w3 (w3.alloc (.cells #[.int .i64 (c), .int .i64 (m)] 23)) := (by repeat (first | exact Below.refl _ _ | assumption | refine Below.alloc ?_ (by simp <;> omega) _ | refine Below.setCell ?_ (by simp <;> omega) _ | refine Below.drew ?_ | refine below_drewN ?_ _))
  have zx3_0 := keepc gg x3_0
  have zx3_1 := keepc gg x3_1
  have zx3_2 := keepc gg x3_2
  have zx3_3 := keepc gg x3_3
  have zx3_4 := keepc gg x3_4
  have zx3_5 := keepc gg x3_5
  clear gg
  go_wp2_with fail
  refine (F1.out _).mono ?_
  rintro e w4 ⟨rfl, h4⟩
  have g4 : Below w3.heap.size w3 w4 := Below.trans (by repeat (first | exact Below.refl _ _ | assumption | refine Below.alloc ?_ (by simp <;> omega) _ | refine Below.setCell ?_ (by simp <;> omega) _ | refine Below.drew ?_ | refine below_drewN ?_ _)) (h4.mono (by simp <;> omega))
  have x4_0 := keepc g4 x3_0
  have x4_1 := keepc g4 x3_1
  have x4_2 := keepc g4 x3_2
  have x4_3 := keepc g4 x3_3
  have x4_4 := keepc g4 x3_4
  have x4_5 := keepc g4 x3_5
  have x4_6 := keepc h4 (a := ⟨w3.heap.size, 0, none⟩) (v := .int .i64 (c)) (by simp [go_sem])
  have x4_7 := keepc h4 (a := ⟨w3.heap.size, 1, none⟩) (v := .int .i64 (m)) (by simp [go_sem])
  clear x3_0 x3_1 x3_2 x3_3 x3_4 x3_5 zx3_0 zx3_1 zx3_2 zx3_3 zx3_4 zx3_5
  have q4 := q3.trans (g4.mono q3.size)
  clear g4 h4 q3
  go_wp2_with fail
  refine (F2.out _).mono ?_
  rintro e w5 ⟨rfl, h5⟩
  have g5 : Below w4.heap.size w4 w5 := Below.trans (by repeat (first | exact Below.refl _ _ | assumption | refine Below.alloc ?_ (by simp <;> omega) _ | refine Below.setCell ?_ (by simp <;> omega) _ | refine Below.drew ?_ | refine below_drewN ?_ _)) (h5.mono (by simp <;> omega))
  have x5_0 := keepc g5 x4_0
  have x5_1 := keepc g5 x4_1
  have x5_2 := keepc g5 x4_2
  have x5_3 := keepc g5 x4_3
  have x5_4 := keepc g5 x4_4
  have x5_5 := keepc g5 x4_5
  have x5_6 := keepc g5 x4_6
  have x5_7 := keepc g5 x4_7
  clear x4_0 x4_1 x4_2 x4_3 x4_4 x4_5 x4_6 x4_7
  have q5 := q4.trans (g5.mono q4.size)
  clear g5 h5 q4
  go_wp2_with fail
  refine (K1.out _).mono ?_
  rintro e w6 ⟨rfl, h6⟩
  have g6 : Below w5.heap.size w5 w6 := Below.trans (by repeat (first | exact Below.refl _ _ | assumption | refine Below.alloc ?_ (by simp <;> omega) _ | refine Below.setCell ?_ (by simp <;> omega) _ | refine Below.drew ?_ | refine below_drewN ?_ _)) (h6.mono (by simp <;> omega))
  have x6_0 := keepc g6 x5_0
  have x6_1 := keepc g6 x5_1
  have x6_2 := keepc g6 x5_2
  have x6_3 := keepc g6 x5_3
  have x6_4 := keepc g6 x5_4
  have x6_5 := keepc g6 x5_5
  have x6_6 := keepc g6 x5_6
  have x6_7 := keepc g6 x5_7
  clear x5_0 x5_1 x5_2 x5_3 x5_4 x5_5 x5_6 x5_7
  have q6 := q5.trans (g6.mono q5.size)
  clear g6 h6 q5
  go_wp2_with fail
  refine (CD.out _).mono ?_
  rintro e w7 ⟨rfl, h7⟩
  have g7 : Below w6.heap.size w6 w7 := Below.trans (by repeat (first | exact Below.refl _ _ | assumption | refine Below.alloc ?_ (by simp <;> omega) _ | refine Below.setCell ?_ (by simp <;> omega) _ | refine Below.drew ?_ | refine below_drewN ?_ _)) (h7.mono (by simp <;> omega))
  have x7_0 := keepc g7 x6_0
  have x7_1 := keepc g7 x6_1
  have x7_2 := keepc g7 x6_2
  have x7_3 := keepc g7 x6_3
  have x7_4 := keepc g7 x6_4
  have x7_5 := keepc g7 x6_5
  have x7_6 := keepc g7 x6_6
  have x7_7 := keepc g7 x6_7
  clear x6_0 x6_1 x6_2 x6_3 x6_4 x6_5 x6_6 x6_7
  have q7 := q6.trans (g7.mono q6.size)
  clear g7 h7 q6
  have gg : Below w7.heap.size w7 (w7.alloc (.cells #[.int .i64 (U), .int .i64 (V)] 23)) := (by repeat (first | exact Below.refl _ _ | assumption | refine Below.alloc ?_ (by simp <;> omega) _ | refine Below.setCell ?_ (by simp <;> omega) _ | refine Below.drew ?_ | refine below_drewN ?_ _))
  have zx7_0 := keepc gg x7_0
  have zx7_1 := keepc gg x7_1
  have zx7_2 := keepc gg x7_2
  have zx7_3 := keepc gg x7_3
  have zx7_4 := keepc gg x7_4
  have zx7_5 := keepc gg x7_5
  have zx7_6 := keepc gg x7_6
  have zx7_7 := keepc gg x7_7
  clear gg
  go_wp2_with fail
  refine (F3.out _).mono ?_
  rintro e w8 ⟨rfl, h8⟩
  have g8 : Below w7.heap.size w7 w8 := Below.trans (by repeat (first | exact Below.refl _ _ | assumption | refine Below.alloc ?_ (by simp <;> omega) _ | refine Below.setCell ?_ (by simp <;> omega) _ | refine Below.drew ?_ | refine below_drewN ?_ _)) (h8.mono (by simp <;> omega))
  have x8_0 := keepc g8 x7_0
  have x8_1 := keepc g8 x7_1
  have x8_2 := keepc g8 x7_2
  have x8_3 := keepc g8 x7_3
  have x8_4 := keepc g8 x7_4
  have x8_5 := keepc g8 x7_5
  have x8_6 := keepc g8 x7_6
  have x8_7 := keepc g8 x7_7
  have x8_8 := keepc h8 (a := ⟨w7.heap.size, 0, none⟩) (v := .int .i64 (U)) (by simp [go_sem])
  have x8_9 := keepc h8 (a := ⟨w7.heap.size, 1, none⟩) (v := .int .i64 (V)) (by simp [go_sem])
  clear x7_0 x7_1 x7_2 x7_3 x7_4 x7_5 x7_6 x7_7 zx7_0 zx7_1 zx7_2 zx7_3 zx7_4 zx7_5 zx7_6 zx7_7
  have q8 := q7.trans (g8.mono q7.size)
  clear g8 h8 q7
  go_wp2_with fail
  refine (F4.out _).mono ?_
  rintro e w9 ⟨rfl, h9⟩
  have g9 : Below w8.heap.size w8 w9 := Below.trans (by repeat (first | exact Below.refl _ _ | assumption | refine Below.alloc ?_ (by simp <;> omega) _ | refine Below.setCell ?_ (by simp <;> omega) _ | refine Below.drew ?_ | refine below_drewN ?_ _)) (h9.mono (by simp <;> omega))
  have x9_0 := keepc g9 x8_0
  have x9_1 := keepc g9 x8_1
  have x9_2 := keepc g9 x8_2
  have x9_3 := keepc g9 x8_3
  have x9_4 := keepc g9 x8_4
  have x9_5 := keepc g9 x8_5
  have x9_6 := keepc g9 x8_6
  have x9_7 := keepc g9 x8_7
  have x9_8 := keepc g9 x8_8
  have x9_9 := keepc g9 x8_9
  clear x8_0 x8_1 x8_2 x8_3 x8_4 x8_5 x8_6 x8_7 x8_8 x8_9
  have q9 := q8.trans (g9.mono q8.size)
  clear g9 h9 q8
  go_wp2
  go_ret
  exact ⟨rfl, q9⟩

set_option maxHeartbeats 4000000 in
theorem case2 (c m d k X Y E U V F : Int) (w : World) (hF : (F == 0) = false)
    (CA : Hid (∀ w : World, Calls Try.prog 8 #[.agg #[.int .i64 (c), .int .i64 (m)], .agg #[.int .i64 (d), .int .i64 (k)]] w fun e w' => e = .returned (.tuple #[.agg #[.int .i64 (c + d), .int .i64 (m + k)], .int .i64 (0)]) ∧ Below w.heap.size w w'))
    (CS : Hid (∀ w : World, Calls Try.prog 9 #[.agg #[.int .i64 (c + d), .int .i64 (m + k)], .agg #[.int .i64 (d), .int .i64 (k)]] w fun e w' => e = .returned (.tuple #[.agg #[.int .i64 (c), .int .i64 (m)], .int .i64 (0)]) ∧ Below w.heap.size w w'))
    (F1 : Hid (∀ w : World, Calls Try.prog 10 #[.agg #[.int .i64 (c), .int .i64 (m)], .agg #[.int .i64 (c + d), .int .i64 (m + k)]] w fun e w' => e = .returned (.bool true) ∧ Below w.heap.size w w'))
    (F2 : Hid (∀ w : World, Calls Try.prog 10 #[.agg #[.int .i64 (d), .int .i64 (k)], .agg #[.int .i64 (c + d), .int .i64 (m + k)]] w fun e w' => e = .returned (.bool true) ∧ Below w.heap.size w w'))
    (K1 : Hid (∀ w : World, Calls Try.prog 11 #[.agg #[.int .i64 (c + d), .int .i64 (m + k)]] w fun e w' => e = .returned (.int .i64 0) ∧ Below w.heap.size w w'))
    (CD : Hid (∀ w : World, Calls Try.prog 9 #[.agg #[.int .i64 (c), .int .i64 (m)], .agg #[.int .i64 (d), .int .i64 (k)]] w fun e w' => e = .returned (.tuple #[.agg #[.int .i64 (U), .int .i64 (V)], .int .i64 (F)]) ∧ Below w.heap.size w w'))
    (K2 : Hid (∀ w : World, Calls Try.prog 11 #[.agg #[.int .i64 (c), .int .i64 (m)]] w fun e w' => e = .returned (.int .i64 0) ∧ Below w.heap.size w w'))
    (K3 : Hid (∀ w : World, Calls Try.prog 11 #[.agg #[.int .i64 (d), .int .i64 (k)]] w fun e w' => e = .returned (.int .i64 0) ∧ Below w.heap.size w w'))
    (F3 : Hid (∀ w : World, Calls Try.prog 10 #[.agg #[.int .i64 (d), .int .i64 (k)], .agg #[.int .i64 (c), .int .i64 (m)]] w fun e w' => e = .returned (.bool false) ∧ Below w.heap.size w w'))
   :
    Calls Try.prog 3 #[.agg #[.int .i64 c, .int .i64 m], .agg #[.int .i64 d, .int .i64 k]] w fun e w' => e = .returned (.bool true) ∧ Below w.heap.size w w' := by
  go_enter Try.func3, Try.ntmps3
  go_wp2_with fail
  refine (awake2_any _).mono ?_
  rintro e w1 ⟨rfl, h1⟩
  have g1 : Below w.heap.size w w1 := Below.trans (by repeat (first | exact Below.refl _ _ | assumption | refine Below.alloc ?_ (by simp <;> omega) _ | refine Below.setCell ?_ (by simp <;> omega) _ | refine Below.drew ?_ | refine below_drewN ?_ _)) (h1.mono (by simp <;> omega))
  have x1_0 := keepc h1 (a := ⟨w.heap.size, 0, none⟩) (v := .int .i64 (c)) (by simp [go_sem])
  have x1_1 := keepc h1 (a := ⟨w.heap.size, 1, none⟩) (v := .int .i64 (m)) (by simp [go_sem])
  have x1_2 := keepc h1 (a := ⟨w.heap.size + 1, 0, none⟩) (v := .int .i64 (d)) (by simp [go_sem])
  have x1_3 := keepc h1 (a := ⟨w.heap.size + 1, 1, none⟩) (v := .int .i64 (k)) (by simp [go_sem])
  have q1 := g1
  clear g1 h1
  go_wp2_with fail
  refine (CA.out _).mono ?_
  rintro e w2 ⟨rfl, h2⟩
  have g2 : Below w1.heap.size w1 w2 := Below.trans (by repeat (first | exact Below.refl _ _ | assumption | refine Below.alloc ?_ (by simp <;> omega) _ | refine Below.setCell ?_ (by simp <;> omega) _ | refine Below.drew ?_ | refine below_drewN ?_ _)) (h2.mono (by simp <;> omega))
  have x2_0 := keepc g2 x1_0
  have x2_1 := keepc g2 x1_1
  have x2_2 := keepc g2 x1_2
  have x2_3 := keepc g2 x1_3
  clear x1_0 x1_1 x1_2 x1_3
  have q2 := q1.trans (g2.mono q1.size)
  clear g2 h2 q1
  have gg : Below w2.heap.size w2 (w2.alloc (.cells #[.int .i64 (c + d), .int .i64 (m + k)] 23)) := (by repeat (first | exact Below.refl _ _ | assumption | refine Below.alloc ?_ (by simp <;> omega) _ | refine Below.setCell ?_ (by simp <;> omega) _ | refine Below.drew ?_ | refine below_drewN ?_ _))
  have zx2_0 := keepc gg x2_0
  have zx2_1 := keepc gg x2_1
  have zx2_2 := keepc gg x2_2
  have zx2_3 := keepc gg x2_3
  clear gg
  go_wp2_with fail
  refine (CS.out _).mono ?_
  rintro e w3 ⟨rfl, h3⟩
  have g3 : Below w2.heap.size w2 w3 := Below.trans (by repeat (first | exact Below.refl _ _ | assumption | refine Below.alloc ?_ (by simp <;> omega) _ | refine Below.setCell ?_ (by simp <;> omega) _ | refine Below.drew ?_ | refine below_drewN ?_ _)) (h3.mono (by simp <;> omega))
  have x3_0 := keepc g3 x2_0
  have x3_1 := keepc g3 x2_1
  have x3_2 := keepc g3 x2_2
  have x3_3 := keepc g3 x2_3
  have x3_4 := keepc h3 (a := ⟨w2.heap.size, 0, none⟩) (v := .int .i64 (c + d)) (by simp [go_sem])
  have x3_5 := keepc h3 (a := ⟨w2.heap.size, 1, none⟩) (v := .int .i64 (m + k)) (by simp [go_sem])
  clear x2_0 x2_1 x2_2 x2_3 zx2_0 zx2_1 zx2_2 zx2_3
  have q3 := q2.trans (g3.mono q2.size)
  clear g3 h3 q2
  have gg : Below w3.heap.size w3 (w3.alloc (.cells #[.int .i64 (c), .int .i64 (m)] 23)) := (by repeat (first | exact Below.refl _ _ | assumption | refine Below.alloc ?_ (by simp <;> omega) _ | refine Below.setCell ?_ (by simp <;> omega) _ | refine Below.drew ?_ | refine below_drewN ?_ _))
  have zx3_0 := keepc gg x3_0
  have zx3_1 := keepc gg x3_1
  have zx3_2 := keepc gg x3_2
  have zx3_3 := keepc gg x3_3
  have zx3_4 := keepc gg x3_4
  have zx3_5 := keepc gg x3_5
  clear gg
  go_wp2_with fail
  refine (F1.out _).mono ?_
  rintro e w4 ⟨rfl, h4⟩
  have g4 : Below w3.heap.size w3 w4 := Below.trans (by repeat (first | exact Below.refl _ _ | assumption | refine Below.alloc ?_ (by simp <;> omega) _ | refine Below.setCell ?_ (by simp <;> omega) _ | refine Below.drew ?_ | refine below_drewN ?_ _)) (h4.mono (by simp <;> omega))
  have x4_0 := keepc g4 x3_0
  have x4_1 := keepc g4 x3_1
  have x4_2 := keepc g4 x3_2
  have x4_3 := keepc g4 x3_3
  have x4_4 := keepc g4 x3_4
  have x4_5 := keepc g4 x3_5
  have x4_6 := keepc h4 (a := ⟨w3.heap.size, 0, none⟩) (v := .int .i64 (c)) (by simp [go_sem])
  have x4_7 := keepc h4 (a := ⟨w3.heap.size, 1, none⟩) (v := .int .i64 (m)) (by simp [go_sem])
  clear x3_0 x3_1 x3_2 x3_3 x3_4 x3_5 zx3_0 zx3_1 zx3_2 zx3_3 zx3_4 zx3_5
  have q4 := q3.trans (g4.mono q3.size)
  clear g4 h4 q3
  go_wp2_with fail
  refine (F2.out _).mono ?_
  rintro e w5 ⟨rfl, h5⟩
  have g5 : Below w4.heap.size w4 w5 := Below.trans (by repeat (first | exact Below.refl _ _ | assumption | refine Below.alloc ?_ (by simp <;> omega) _ | refine Below.setCell ?_ (by simp <;> omega) _ | refine Below.drew ?_ | refine below_drewN ?_ _)) (h5.mono (by simp <;> omega))
  have x5_0 := keepc g5 x4_0
  have x5_1 := keepc g5 x4_1
  have x5_2 := keepc g5 x4_2
  have x5_3 := keepc g5 x4_3
  have x5_4 := keepc g5 x4_4
  have x5_5 := keepc g5 x4_5
  have x5_6 := keepc g5 x4_6
  have x5_7 := keepc g5 x4_7
  clear x4_0 x4_1 x4_2 x4_3 x4_4 x4_5 x4_6 x4_7
  have q5 := q4.trans (g5.mono q4.size)
  clear g5 h5 q4
  go_wp2_with fail
  refine (K1.out _).mono ?_
  rintro e w6 ⟨rfl, h6⟩
  have g6 : Below w5.heap.size w5 w6 := Below.trans (by repeat (first | exact Below.refl _ _ | assumption | refine Below.alloc ?_ (by simp <;> omega) _ | refine Below.setCell ?_ (by simp <;> omega) _ | refine Below.drew ?_ | refine below_drewN ?_ _)) (h6.mono (by simp <;> omega))
  have x6_0 := keepc g6 x5_0
  have x6_1 := keepc g6 x5_1
  have x6_2 := keepc g6 x5_2
  have x6_3 := keepc g6 x5_3
  have x6_4 := keepc g6 x5_4
  have x6_5 := keepc g6 x5_5
  have x6_6 := keepc g6 x5_6
  have x6_7 := keepc g6 x5_7
  clear x5_0 x5_1 x5_2 x5_3 x5_4 x5_5 x5_6 x5_7
  have q6 := q5.trans (g6.mono q5.size)
  clear g6 h6 q5
  go_wp2_with fail
  refine (CD.out _).mono ?_
  rintro e w7 ⟨rfl, h7⟩
  have g7 : Below w6.heap.size w6 w7 := Below.trans (by repeat (first | exact Below.refl _ _ | assumption | refine Below.alloc ?_ (by simp <;> omega) _ | refine Below.setCell ?_ (by simp <;> omega) _ | refine Below.drew ?_ | refine below_drewN ?_ _)) (h7.mono (by simp <;> omega))
  have x7_0 := keepc g7 x6_0
  have x7_1 := keepc g7 x6_1
  have x7_2 := keepc g7 x6_2
  have x7_3 := keepc g7 x6_3
  have x7_4 := keepc g7 x6_4
  have x7_5 := keepc g7 x6_5
  have x7_6 := keepc g7 x6_6
  have x7_7 := keepc g7 x6_7
  clear x6_0 x6_1 x6_2 x6_3 x6_4 x6_5 x6_6 x6_7
  have q7 := q6.trans (g7.mono q6.size)
  clear g7 h7 q6
  have gg : Below w7.heap.size w7 (w7.alloc (.cells #[.int .i64 (U), .int .i64 (V)] 23)) := (by repeat (first | exact Below.refl _ _ | assumption | refine Below.alloc ?_ (by simp <;> omega) _ | refine Below.setCell ?_ (by simp <;> omega) _ | refine Below.drew ?_ | refine below_drewN ?_ _))
  have zx7_0 := keepc gg x7_0
  have zx7_1 := keepc gg x7_1
  have zx7_2 := keepc gg x7_2
  have zx7_3 := keepc gg x7_3
  have zx7_4 := keepc gg x7_4
  have zx7_5 := keepc gg x7_5
  have zx7_6 := keepc gg x7_6
  have zx7_7 := keepc gg x7_7
  clear gg
  go_wp2_with fail
  refine (K2.out _).mono ?_
  rintro e w8 ⟨rfl, h8⟩
  have g8 : Below w7.heap.size w7 w8 := Below.trans (by repeat (first | exact Below.refl _ _ | assumption | refine Below.alloc ?_ (by simp <;> omega) _ | refine Below.setCell ?_ (by simp <;> omega) _ | refine Below.drew ?_ | refine below_drewN ?_ _)) (h8.mono (by simp <;> omega))
  have x8_0 := keepc g8 x7_0
  have x8_1 := keepc g8 x7_1
  have x8_2 := keepc g8 x7_2
  have x8_3 := keepc g8 x7_3
  have x8_4 := keepc g8 x7_4
  have x8_5 := keepc g8 x7_5
  have x8_6 := keepc g8 x7_6
  have x8_7 := keepc g8 x7_7
  have x8_8 := keepc h8 (a := ⟨w7.heap.size, 0, none⟩) (v := .int .i64 (U)) (by simp [go_sem])
  have x8_9 := keepc h8 (a := ⟨w7.heap.size, 1, none⟩) (v := .int .i64 (V)) (by simp [go_sem])
  clear x7_0 x7_1 x7_2 x7_3 x7_4 x7_5 x7_6 x7_7 zx7_0 zx7_1 zx7_2 zx7_3 zx7_4 zx7_5 zx7_6 zx7_7
  have q8 := q7.trans (g8.mono q7.size)
  clear g8 h8 q7
  go_wp2_with fail
  refine (K3.out _).mono ?_
  rintro e w9 ⟨rfl, h9⟩
  have g9 : Below w8.heap.size w8 w9 := Below.trans (by repeat (first | exact Below.refl _ _ | assumption | refine Below.alloc ?_ (by simp <;> omega) _ | refine Below.setCell ?_ (by simp <;> omega) _ | refine Below.drew ?_ | refine below_drewN ?_ _)) (h9.mono (by simp <;> omega))
  have x9_0 := keepc g9 x8_0
  have x9_1 := keepc g9 x8_1
  have x9_2 := keepc g9 x8_2
  have x9_3 := keepc g9 x8_3
  have x9_4 := keepc g9 x8_4
  have x9_5 := keepc g9 x8_5
  have x9_6 := keepc g9 x8_6
  have x9_7 := keepc g9 x8_7
  have x9_8 := keepc g9 x8_8
  have x9_9 := keepc g9 x8_9
  clear x8_0 x8_1 x8_2 x8_3 x8_4 x8_5 x8_6 x8_7 x8_8 x8_9
  have q9 := q8.trans (g9.mono q8.size)
  clear g9 h9 q8
  go_wp2_with fail
  refine (F3.out _).mono ?_
  rintro e w10 ⟨rfl, h10⟩
  have g10 : Below w9.heap.size w9 w10 := Below.trans (by repeat (first | exact Below.refl _ _ | assumption | refine Below.alloc ?_ (by simp <;> omega) _ | refine Below.setCell ?_ (by simp <;> omega) _ | refine Below.drew ?_ | refine below_drewN ?_ _)) (h10.mono (by simp <;> omega))
  have x10_0 := keepc g10 x9_0
  have x10_1 := keepc g10 x9_1
  have x10_2 := keepc g10 x9_2
  have x10_3 := keepc g10 x9_3
  have x10_4 := keepc g10 x9_4
  have x10_5 := keepc g10 x9_5
  have x10_6 := keepc g10 x9_6
  have x10_7 := keepc g10 x9_7
  have x10_8 := keepc g10 x9_8
  have x10_9 := keepc g10 x9_9
  clear x9_0 x9_1 x9_2 x9_3 x9_4 x9_5 x9_6 x9_7 x9_8 x9_9
  have q10 := q9.trans (g10.mono q9.size)
  clear g10 h10 q9
  go_wp2
  go_ret
  exact ⟨rfl, q10⟩

set_option maxHeartbeats 4000000 in
theorem case3 (c m d k X Y E U V F : Int) (w : World) (hE : (E == 0) = false)
    (CA : Hid (∀ w : World, Calls Try.prog 8 #[.agg #[.int .i64 (c), .int .i64 (m)], .agg #[.int .i64 (d), .int .i64 (k)]] w fun e w' => e = .returned (.tuple #[.agg #[.int .i64 (X), .int .i64 (Y)], .int .i64 (E)]) ∧ Below w.heap.size w w'))
    (CD : Hid (∀ w : World, Calls Try.prog 9 #[.agg #[.int .i64 (c), .int .i64 (m)], .agg #[.int .i64 (d), .int .i64 (k)]] w fun e w' => e = .returned (.tuple #[.agg #[.int .i64 (U), .int .i64 (V)], .int .i64 (0)]) ∧ Below w.heap.size w w'))
    (F3 : Hid (∀ w : World, Calls Try.prog 10 #[.agg #[.int .i64 (d), .int .i64 (k)], .agg #[.int .i64 (c), .int .i64 (m)]] w fun e w' => e = .returned (.bool true) ∧ Below w.heap.size w w'))
    (F4 : Hid (∀ w : World, Calls Try.prog 10 #[.agg #[.int .i64 (U), .int .i64 (V)], .agg #[.int .i64 (c), .int .i64 (m)]] w fun e w' => e = .returned (.bool true) ∧ Below w.heap.size w w'))
   :
    Calls Try.prog 3 #[.agg #[.int .i64 c, .int .i64 m], .agg #[.int .i64 d, .int .i64 k]] w fun e w' => e = .returned (.bool true) ∧ Below w.heap.size w w' := by
  go_enter Try.func3, Try.ntmps3
  go_wp2_with fail
  refine (awake2_any _).mono ?_
  rintro e w1 ⟨rfl, h1⟩
  have g1 : Below w.heap.size w w1 := Below.trans (by repeat (first | exact Below.refl _ _ | assumption | refine Below.alloc ?_ (by simp <;> omega) _ | refine Below.setCell ?_ (by simp <;> omega) _ | refine Below.drew ?_ | refine below_drewN ?_ _)) (h1.mono (by simp <;> omega))
  have x1_0 := keepc h1 (a := ⟨w.heap.size, 0, none⟩) (v := .int .i64 (c)) (by simp [go_sem])
  have x1_1 := keepc h1 (a := ⟨w.heap.size, 1, none⟩) (v := .int .i64 (m)) (by simp [go_sem])
  have x1_2 := keepc h1 (a := ⟨w.heap.size + 1, 0, none⟩) (v := .int .i64 (d)) (by simp [go_sem])
  have x1_3 := keepc h1 (a := ⟨w.heap.size + 1, 1, none⟩) (v := .int .i64 (k)) (by simp [go_sem])
  have q1 := g1
  clear g1 h1
  go_wp2_with fail
  refine (CA.out _).mono ?_
  rintro e w2 ⟨rfl, h2⟩
  have g2 : Below w1.heap.size w1 w2 := Below.trans (by repeat (first | exact Below.refl _ _ | assumption | refine Below.alloc ?_ (by simp <;> omega) _ | refine Below.setCell ?_ (by simp <;> omega) _ | refine Below.drew ?_ | refine below_drewN ?_ _)) (h2.mono (by simp <;> omega))
  have x2_0 := keepc g2 x1_0
  have x2_1 := keepc g2 x1_1
  have x2_2 := keepc g2 x1_2
  have x2_3 := keepc g2 x1_3
  clear x1_0 x1_1 x1_2 x1_3
  have q2 := q1.trans (g2.mono q1.size)
  clear g2 h2 q1
  have gg : Below w2.heap.size w2 (w2.alloc (.cells #[.int .i64 (X), .int .i64 (Y)] 23)) := (by repeat (first | exact Below.refl _ _ | assumption | refine Below.alloc ?_ (by simp <;> omega) _ | refine Below.setCell ?_ (by simp <;> omega) _ | refine Below.drew ?_ | refine below_drewN ?_ _))
  have zx2_0 := keepc gg x2_0
  have zx2_1 := keepc gg x2_1
  have zx2_2 := keepc gg x2_2
  have zx2_3 := keepc gg x2_3
  clear gg
  go_wp2_with fail
  refine (CD.out _).mono ?_
  rintro e w3 ⟨rfl, h3⟩
  have g3 : Below w2.heap.size w2 w3 := Below.trans (by repeat (first | exact Below.refl _ _ | assumption | refine Below.alloc ?_ (by simp <;> omega) _ | refine Below.setCell ?_ (by simp <;> omega) _ | refine Below.drew ?_ | refine below_drewN ?_ _)) (h3.mono (by simp <;> omega))
  have x3_0 := keepc g3 x2_0
  have x3_1 := keepc g3 x2_1
  have x3_2 := keepc g3 x2_2
  have x3_3 := keepc g3 x2_3
  have x3_4 := keepc h3 (a := ⟨w2.heap.size, 0, none⟩) (v := .int .i64 (X)) (by simp [go_sem])
  have x3_5 := keepc h3 (a := ⟨w2.heap.size, 1, none⟩) (v := .int .i64 (Y)) (by simp [go_sem])
  clear x2_0 x2_1 x2_2 x2_3 zx2_0 zx2_1 zx2_2 zx2_3
  have q3 := q2.trans (g3.mono q2.size)
  clear g3 h3 q2
  have gg : Below w3.heap.size w3 (w3.alloc (.cells #[.int .i64 (U), .int .i64 (V)] 23)) := (by repeat (first | exact Below.refl _ _ | assumption | refine Below.alloc ?_ (by simp <;> omega) _ | refine Below.setCell ?_ (by simp <;> omega) _ | refine Below.drew ?_ | refine below_drewN ?_ _))
  have zx3_0 := keepc gg x3_0
  have zx3_1 := keepc gg x3_1
  have zx3_2 := keepc gg x3_2
  have zx3_3 := keepc gg x3_3
  have zx3_4 := keepc gg x3_4
  have zx3_5 := keepc gg x3_5
  clear gg
  go_wp2_with fail
  refine (F3.out _).mono ?_
  rintro e w4 ⟨rfl, h4⟩
  have g4 : Below w3.heap.size w3 w4 := Below.trans (by repeat (first | exact Below.refl _ _ | assumption | refine Below.alloc ?_ (by simp <;> omega) _ | refine Below.setCell ?_ (by simp <;> omega) _ | refine Below.drew ?_ | refine below_drewN ?_ _)) (h4.mono (by simp <;> omega))
  have x4_0 := keepc g4 x3_0
  have x4_1 := keepc g4 x3_1
  have x4_2 := keepc g4 x3_2
  have x4_3 := keepc g4 x3_3
  have x4_4 := keepc g4 x3_4
  have x4_5 := keepc g4 x3_5
  have x4_6 := keepc h4 (a := ⟨w3.heap.size, 0, none⟩) (v := .int .i64 (U)) (by simp [go_sem])
  have x4_7 := keepc h4 (a := ⟨w3.heap.size, 1, none⟩) (v := .int .i64 (V)) (by simp [go_sem])
  clear x3_0 x3_1 x3_2 x3_3 x3_4 x3_5 zx3_0 zx3_1 zx3_2 zx3_3 zx3_4 zx3_5
  have q4 := q3.trans (g4.mono q3.size)
  clear g4 h4 q3
  go_wp2_with fail
  refine (F4.out _).mono ?_
  rintro e w5 ⟨rfl, h5⟩
  have g5 : Below w4.heap.size w4 w5 := Below.trans (by repeat (first | exact Below.refl _ _ | assumption | refine Below.alloc ?_ (by simp <;> omega) _ | refine Below.setCell ?_ (by simp <;> omega) _ | refine Below.drew ?_ | refine below_drewN ?_ _)) (h5.mono (by simp <;> omega))
  have x5_0 := keepc g5 x4_0
  have x5_1 := keepc g5 x4_1
  have x5_2 := keepc g5 x4_2
  have x5_3 := keepc g5 x4_3
  have x5_4 := keepc g5 x4_4
  have x5_5 := keepc g5 x4_5
  have x5_6 := keepc g5 x4_6
  have x5_7 := keepc g5 x4_7
  clear x4_0 x4_1 x4_2 x4_3 x4_4 x4_5 x4_6 x4_7
  have q5 := q4.trans (g5.mono q4.size)
  clear g5 h5 q4
  go_wp2
  go_ret
  exact ⟨rfl, q5⟩

set_option maxHeartbeats 4000000 in
theorem case4 (c m d k X Y E U V F : Int) (w : World) (hE : (E == 0) = false) (hF : (F == 0) = false)
    (CA : Hid (∀ w : World, Calls Try.prog 8 #[.agg #[.int .i64 (c), .int .i64 (m)], .agg #[.int .i64 (d), .int .i64 (k)]] w fun e w' => e = .returned (.tuple #[.agg #[.int .i64 (X), .int .i64 (Y)], .int .i64 (E)]) ∧ Below w.heap.size w w'))
    (CD : Hid (∀ w : World, Calls Try.prog 9 #[.agg #[.int .i64 (c), .int .i64 (m)], .agg #[.int .i64 (d), .int .i64 (k)]] w fun e w' => e = .returned (.tuple #[.agg #[.int .i64 (U), .int .i64 (V)], .int .i64 (F)]) ∧ Below w.heap.size w w'))
    (K2 : Hid (∀ w : World, Calls Try.prog 11 #[.agg #[.int .i64 (c), .int .i64 (m)]] w fun e w' => e = .returned (.int .i64 1) ∧ Below w.heap.size w w'))
   :
    Calls Try.prog 3 #[.agg #[.int .i64 c, .int .i64 m], .agg #[.int .i64 d, .int .i64 k]] w fun e w' => e = .returned (.bool true) ∧ Below w.heap.size w w' := by
  go_enter Try.func3, Try.ntmps3
  go_wp2_with fail
  refine (awake2_any _).mono ?_
  rintro e w1 ⟨rfl, h1⟩
  have g1 : Below w.heap.size w w1 := Below.trans (by repeat (first | exact Below.refl _ _ | assumption | refine Below.alloc ?_ (by simp <;> omega) _ | refine Below.setCell ?_ (by simp <;> omega) _ | refine Below.drew ?_ | refine below_drewN ?_ _)) (h1.mono (by simp <;> omega))
  have x1_0 := keepc h1 (a := ⟨w.heap.size, 0, none⟩) (v := .int .i64 (c)) (by simp [go_sem])
  have x1_1 := keepc h1 (a := ⟨w.heap.size, 1, none⟩) (v := .int .i64 (m)) (by simp [go_sem])
  have x1_2 := keepc h1 (a := ⟨w.heap.size + 1, 0, none⟩) (v := .int .i64 (d)) (by simp [go_sem])
  have x1_3 := keepc h1 (a := ⟨w.heap.size + 1, 1, none⟩) (v := .int .i64 (k)) (by simp [go_sem])
  have q1 := g1
  clear g1 h1
  go_wp2_with fail
  refine (CA.out _).mono ?_
  rintro e w2 ⟨rfl, h2⟩
  have g2 : Below w1.heap.size w1 w2 := Below.trans (by repeat (first | exact Below.refl _ _ | assumption | refine Below.alloc ?_ (by simp <;> omega) _ | refine Below.setCell ?_ (by simp <;> omega) _ | refine Below.drew ?_ | refine below_drewN ?_ _)) (h2.mono (by simp <;> omega))
  have x2_0 := keepc g2 x1_0
  have x2_1 := keepc g2 x1_1
  have x2_2 := keepc g2 x1_2
  have x2_3 := keepc g2 x1_3
  clear x1_0 x1_1 x1_2 x1_3
  have q2 := q1.trans (g2.mono q1.size)
  clear g2 h2 q1
  have gg : Below w2.heap.size w2 (w2.alloc (.cells #[.int .i64 (X), .int .i64 (Y)] 23)) := (by repeat (first | exact Below.refl _ _ | assumption | refine Below.alloc ?_ (by simp <;> omega) _ | refine Below.setCell ?_ (by simp <;> omega) _ | refine Below.drew ?_ | refine below_drewN ?_ _))
  have zx2_0 := keepc gg x2_0
  have zx2_1 := keepc gg x2_1
  have zx2_2 := keepc gg x2_2
  have zx2_3 := keepc gg x2_3
  clear gg
  go_wp2_with fail
  refine (CD.out _).mono ?_
  rintro e w3 ⟨rfl, h3⟩
  have g3 : Below w2.heap.size w2 w3 := Below.trans (by repeat (first | exact Below.refl _ _ | assumption | refine Below.alloc ?_ (by simp <;> omega) _ | refine Below.setCell ?_ (by simp <;> omega) _ | refine Below.drew ?_ | refine below_drewN ?_ _)) (h3.mono (by simp <;> omega))
  have x3_0 := keepc g3 x2_0
  have x3_1 := keepc g3 x2_1
  have x3_2 := keepc g3 x2_2
  have x3_3 := keepc g3 x2_3
  have x3_4 := keepc h3 (a := ⟨w2.heap.size, 0, none⟩) (v := .int .i64 (X)) (by simp [go_sem])
  have x3_5 := keepc h3 (a := ⟨w2.heap.size, 1, none⟩) (v := .int .i64 (Y)) (by simp [go_sem])
  clear x2_0 x2_1 x2_2 x2_3 zx2_0 zx2_1 zx2_2 zx2_3
  have q3 := q2.trans (g3.mono q2.size)
  clear g3 h3 q2
  have gg : Below w3.heap.size w3 (w3.alloc (.cells #[.int .i64 (U), .int .i64 (V)] 23)) := (by repeat (first | exact Below.refl _ _ | assumption | refine Below.alloc ?_ (by simp <;> omega) _ | refine Below.setCell ?_ (by simp <;> omega) _ | refine Below.drew ?_ | refine below_drewN ?_ _))
  have zx3_0 := keepc gg x3_0
  have zx3_1 := keepc gg x3_1
  have zx3_2 := keepc gg x3_2
  have zx3_3 := keepc gg x3_3
  have zx3_4 := keepc gg x3_4
  have zx3_5 := keepc gg x3_5
  clear gg
  go_wp2_with fail
  refine (K2.out _).mono ?_
  rintro e w4 ⟨rfl, h4⟩
  have g4 : Below w3.heap.size w3 w4 := Below.trans (by repeat (first | exact Below.refl _ _ | assumption | refine Below.alloc ?_ (by simp <;> omega) _ | refine Below.setCell ?_ (by simp <;> omega) _ | refine Below.drew ?_ | refine below_drewN ?_ _)) (h4.mono (by simp <;> omega))
  have x4_0 := keepc g4 x3_0
  have x4_1 := keepc g4 x3_1
  have x4_2 := keepc g4 x3_2
  have x4_3 := keepc g4 x3_3
  have x4_4 := keepc g4 x3_4
  have x4_5 := keepc g4 x3_5
  have x4_6 := keepc h4 (a := ⟨w3.heap.size, 0, none⟩) (v := .int .i64 (U)) (by simp [go_sem])
  have x4_7 := keepc h4 (a := ⟨w3.heap.size, 1, none⟩) (v := .int .i64 (V)) (by simp [go_sem])
  clear x3_0 x3_1 x3_2 x3_3 x3_4 x3_5 zx3_0 zx3_1 zx3_2 zx3_3 zx3_4 zx3_5
  have q4 := q3.trans (g4.mono q3.size)
  clear g4 h4 q3
  go_wp2
  go_ret
  exact ⟨rfl, q4⟩

set_option maxHeartbeats 4000000 in
theorem case5 (c m d k X Y E U V F : Int) (w : World) (hE : (E == 0) = false) (hF : (F == 0) = false)
    (CA : Hid (∀ w : World, Calls Try.prog 8 #[.agg #[.int .i64 (c), .int .i64 (m)], .agg #[.int .i64 (d), .int .i64 (k)]] w fun e w' => e = .returned (.tuple #[.agg #[.int .i64 (X), .int .i64 (Y)], .int .i64 (E)]) ∧ Below w.heap.size w w'))
    (CD : Hid (∀ w : World, Calls Try.prog 9 #[.agg #[.int .i64 (c), .int .i64 (m)], .agg #[.int .i64 (d), .int .i64 (k)]] w fun e w' => e = .returned (.tuple #[.agg #[.int .i64 (U), .int .i64 (V)], .int .i64 (F)]) ∧ Below w.heap.size w w'))
    (K2 : Hid (∀ w : World, Calls Try.prog 11 #[.agg #[.int .i64 (c), .int .i64 (m)]] w fun e w' => e = .returned (.int .i64 0) ∧ Below w.heap.size w w'))
    (K3 : Hid (∀ w : World, Calls Try.prog 11 #[.agg #[.int .i64 (d), .int .i64 (k)]] w fun e w' => e = .returned (.int .i64 1) ∧ Below w.heap.size w w'))
   :
    Calls Try.prog 3 #[.agg #[.int .i64 c, .int .i64 m], .agg #[.int .i64 d, .int .i64 k]] w fun e w' => e = .returned (.bool true) ∧ Below w.heap.size w w' := by
  go_enter Try.func3, Try.ntmps3
  go_wp2_with fail
  refine (awake2_any _).mono ?_
  rintro e w1 ⟨rfl, h1⟩
  have g1 : Below w.heap.size w w1 := Below.trans (by repeat (first | exact Below.refl _ _ | assumption | refine Below.alloc ?_ (by simp <;> omega) _ | refine Below.setCell ?_ (by simp <;> omega) _ | refine Below.drew ?_ | refine below_drewN ?_ _)) (h1.mono (by simp <;> omega))
  have x1_0 := keepc h1 (a := ⟨w.heap.size, 0, none⟩) (v := .int .i64 (c)) (by simp [go_sem])
  have x1_1 := keepc h1 (a := ⟨w.heap.size, 1, none⟩) (v := .int .i64 (m)) (by simp [go_sem])
  have x1_2 := keepc h1 (a := ⟨w.heap.size + 1, 0, none⟩) (v := .int .i64 (d)) (by simp [go_sem])
  have x1_3 := keepc h1 (a := ⟨w.heap.size + 1, 1, none⟩) (v := .int .i64 (k)) (by simp [go_sem])
  have q1 := g1
  clear g1 h1
  go_wp2_with fail
  refine (CA.out _).mono ?_
  rintro e w2 ⟨rfl, h2⟩
  have g2 : Below w1.heap.size w1 w2 := Below.trans (by repeat (first | exact Below.refl _ _ | assumption | refine Below.alloc ?_ (by simp <;> omega) _ | refine Below.setCell ?_ (by simp <;> omega) _ | refine Below.drew ?_ | refine below_drewN ?_ _)) (h2.mono (by simp <;> omega))
  have x2_0 := keepc g2 x1_0
  have x2_1 := keepc g2 x1_1
  have x2_2 := keepc g2 x1_2
  have x2_3 := keepc g2 x1_3
  clear x1_0 x1_1 x1_2 x1_3
  have q2 := q1.trans (g2.mono q1.size)
  clear g2 h2 q1
  have gg : Below w2.heap.size w2 (w2.alloc (.cells #[.int .i64 (X), .int .i64 (Y)] 23)) := (by repeat (first | exact Below.refl _ _ | assumption | refine Below.alloc ?_ (by simp <;> omega) _ | refine Below.setCell ?_ (by simp <;> omega) _ | refine Below.drew ?_ | refine below_drewN ?_ _))
  have zx2_0 := keepc gg x2_0
  have zx2_1 := keepc gg x2_1
  have zx2_2 := keepc gg x2_2
  have zx2_3 := keepc gg x2_3
  clear gg
  go_wp2_with fail
  refine (CD.out _).mono ?_
  rintro e w3 ⟨rfl, h3⟩
  have g3 : Below w2.heap.size w2 w3 := Below.trans (by repeat (first | exact Below.refl _ _ | assumption | refine Below.alloc ?_ (by simp <;> omega) _ | refine Below.setCell ?_ (by simp <;> omega) _ | refine Below.drew ?_ | refine below_drewN ?_ _)) (h3.mono (by simp <;> omega))
  have x3_0 := keepc g3 x2_0
  have x3_1 := keepc g3 x2_1
  have x3_2 := keepc g3 x2_2
  have x3_3 := keepc g3 x2_3
  have x3_4 := keepc h3 (a := ⟨w2.heap.size, 0, none⟩) (v := .int .i64 (X)) (by simp [go_sem])
  have x3_5 := keepc h3 (a := ⟨w2.heap.size, 1, none⟩) (v := .int .i64 (Y)) (by simp [go_sem])
  clear x2_0 x2_1 x2_2 x2_3 zx2_0 zx2_1 zx2_2 zx2_3
  have q3 := q2.trans (g3.mono q2.size)
  clear g3 h3 q2
  have gg : Below w3.heap.size w3 (w3.alloc (.cells #[.int .i64 (U), .int .i64 (V)] 23)) := (by repeat (first | exact Below.refl _ _ | assumption | refine Below.alloc ?_ (by simp <;> omega) _ | refine Below.setCell ?_ (by simp <;> omega) _ | refine Below.drew ?_ | refine below_drewN ?_ _))
  have zx3_0 := keepc gg x3_0
  have zx3_1 := keepc gg x3_1
  have zx3_2 := keepc gg x3_2
  have zx3_3 := keepc gg x3_3
  have zx3_4 := keepc gg x3_4
  have zx3_5 := keepc gg x3_5
  clear gg
  go_wp2_with fail
  refine (K2.out _).mono ?_
  rintro e w4 ⟨rfl, h4⟩
  have g4 : Below w3.heap.size w3 w4 := Below.trans (by repeat (first | exact Below.refl _ _ | assumption | refine Below.alloc ?_ (by simp <;> omega) _ | refine Below.setCell ?_ (by simp <;> omega) _ | refine Below.drew ?_ | refine below_drewN ?_ _)) (h4.mono (by simp <;> omega))
  have x4_0 := keepc g4 x3_0
  have x4_1 := keepc g4 x3_1
  have x4_2 := keepc g4 x3_2
  have x4_3 := keepc g4 x3_3
  have x4_4 := keepc g4 x3_4
  have x4_5 := keepc g4 x3_5
  have x4_6 := keepc h4 (a := ⟨w3.heap.size, 0, none⟩) (v := .int .i64 (U)) (by simp [go_sem])
  have x4_7 := keepc h4 (a := ⟨w3.heap.size, 1, none⟩) (v := .int .i64 (V)) (by simp [go_sem])
  clear x3_0 x3_1 x3_2 x3_3 x3_4 x3_5 zx3_0 zx3_1 zx3_2 zx3_3 zx3_4 zx3_5
  have q4 := q3.trans (g4.mono q3.size)
  clear g4 h4 q3
  go_wp2_with fail
  refine (K3.out _).mono ?_
  rintro e w5 ⟨rfl, h5⟩
  have g5 : Below w4.heap.size w4 w5 := Below.trans (by repeat (first | exact Below.refl _ _ | assumption | refine Below.alloc ?_ (by simp <;> omega) _ | refine Below.setCell ?_ (by simp <;> omega) _ | refine Below.drew ?_ | refine below_drewN ?_ _)) (h5.mono (by simp <;> omega))
  have x5_0 := keepc g5 x4_0
  have x5_1 := keepc g5 x4_1
  have x5_2 := keepc g5 x4_2
  have x5_3 := keepc g5 x4_3
  have x5_4 := keepc g5 x4_4
  have x5_5 := keepc g5 x4_5
  have x5_6 := keepc g5 x4_6
  have x5_7 := keepc g5 x4_7
  clear x4_0 x4_1 x4_2 x4_3 x4_4 x4_5 x4_6 x4_7
  have q5 := q4.trans (g5.mono q4.size)
  clear g5 h5 q4
  go_wp2
  go_ret
  exact ⟨rfl, q5⟩

set_option maxHeartbeats 4000000 in
theorem case6 (c m d k X Y E U V F : Int) (w : World) (hE : (E == 0) = false) (hF : (F == 0) = false)
    (CA : Hid (∀ w : World, Calls Try.prog 8 #[.agg #[.int .i64 (c), .int .i64 (m)], .agg #[.int .i64 (d), .int .i64 (k)]] w fun e w' => e = .returned (.tuple #[.agg #[.int .i64 (X), .int .i64 (Y)], .int .i64 (E)]) ∧ Below w.heap.size w w'))
    (CD : Hid (∀ w : World, Calls Try.prog 9 #[.agg #[.int .i64 (c), .int .i64 (m)], .agg #[.int .i64 (d), .int .i64 (k)]] w fun e w' => e = .returned (.tuple #[.agg #[.int .i64 (U), .int .i64 (V)], .int .i64 (F)]) ∧ Below w.heap.size w w'))
    (K2 : Hid (∀ w : World, Calls Try.prog 11 #[.agg #[.int .i64 (c), .int .i64 (m)]] w fun e w' => e = .returned (.int .i64 0) ∧ Below w.heap.size w w'))
    (K3 : Hid (∀ w : World, Calls Try.prog 11 #[.agg #[.int .i64 (d), .int .i64 (k)]] w fun e w' => e = .returned (.int .i64 0) ∧ Below w.heap.size w w'))
    (F3 : Hid (∀ w : World, Calls Try.prog 10 #[.agg #[.int .i64 (d), .int .i64 (k)], .agg #[.int .i64 (c), .int .i64 (m)]] w fun e w' => e = .returned (.bool false) ∧ Below w.heap.size w w'))
   :
    Calls Try.prog 3 #[.agg #[.int .i64 c, .int .i64 m], .agg #[.int .i64 d, .int .i64 k]] w fun e w' => e = .returned (.bool true) ∧ Below w.heap.size w w' := by
  go_enter Try.func3, Try.ntmps3
  go_wp2_with fail
  refine (awake2_any _).mono ?_
  rintro e w1 ⟨rfl, h1⟩
  have g1 : Below w.heap.size w w1 := Below.trans (by repeat (first | exact Below.refl _ _ | assumption | refine Below.alloc ?_ (by simp <;> omega) _ | refine Below.setCell ?_ (by simp <;> omega) _ | refine Below.drew ?_ | refine below_drewN ?_ _)) (h1.mono (by simp <;> omega))
  have x1_0 := keepc h1 (a := ⟨w.heap.size, 0, none⟩) (v := .int .i64 (c)) (by simp [go_sem])
  have x1_1 := keepc h1 (a := ⟨w.heap.size, 1, none⟩) (v := .int .i64 (m)) (by simp [go_sem])
  have x1_2 := keepc h1 (a := ⟨w.heap.size + 1, 0, none⟩) (v := .int .i64 (d)) (by simp [go_sem])
  have x1_3 := keepc h1 (a := ⟨w.heap.size + 1, 1, none⟩) (v := .int .i64 (k)) (by simp [go_sem])
  have q1 := g1
  clear g1 h1
  go_wp2_with fail
  refine (CA.out _).mono ?_
  rintro e w2 ⟨rfl, h2⟩
  have g2 : Below w1.heap.size w1 w2 := Below.trans (by repeat (first | exact Below.refl _ _ | assumption | refine Below.alloc ?_ (by simp <;> omega) _ | refine Below.setCell ?_ (by simp <;> omega) _ | refine Below.drew ?_ | refine below_drewN ?_ _)) (h2.mono (by simp <;> omega))
  have x2_0 := keepc g2 x1_0
  have x2_1 := keepc g2 x1_1
  have x2_2 := keepc g2 x1_2
  have x2_3 := keepc g2 x1_3
  clear x1_0 x1_1 x1_2 x1_3
  have q2 := q1.trans (g2.mono q1.size)
  clear g2 h2 q1
  have gg : Below w2.heap.size w2 (w2.alloc (.cells #[.int .i64 (X), .int .i64 (Y)] 23)) := (by repeat (first | exact Below.refl _ _ | assumption | refine Below.alloc ?_ (by simp <;> omega) _ | refine Below.setCell ?_ (by simp <;> omega) _ | refine Below.drew ?_ | refine below_drewN ?_ _))
  have zx2_0 := keepc gg x2_0
  have zx2_1 := keepc gg x2_1
  have zx2_2 := keepc gg x2_2
  have zx2_3 := keepc gg x2_3
  clear gg
  go_wp2_with fail
  refine (CD.out _).mono ?_
  rintro e w3 ⟨rfl, h3⟩
  have g3 : Below w2.heap.size w2 w3 := Below.trans (by repeat (first | exact Below.refl _ _ | assumption | refine Below.alloc ?_ (by simp <;> omega) _ | refine Below.setCell ?_ (by simp <;> omega) _ | refine Below.drew ?_ | refine below_drewN ?_ _)) (h3.mono (by simp <;> omega))
  have x3_0 := keepc g3 x2_0
  have x3_1 := keepc g3 x2_1
  have x3_2 := keepc g3 x2_2
  have x3_3 := keepc g3 x2_3
  have x3_4 := keepc h3 (a := ⟨w2.heap.size, 0, none⟩) (v := .int .i64 (X)) (by simp [go_sem])
  have x3_5 := keepc h3 (a := ⟨w2.heap.size, 1, none⟩) (v := .int .i64 (Y)) (by simp [go_sem])
  clear x2_0 x2_1 x2_2 x2_3 zx2_0 zx2_1 zx2_2 zx2_3
  have q3 := q2.trans (g3.mono q2.size)
  clear g3 h3 q2
  have gg : Below w3.heap.size w3 (w3.alloc (.cells #[.int .i64 (U), .int .i64 (V)] 23)) := (by repeat (first | exact Below.refl _ _ | assumption | refine Below.alloc ?_ (by simp <;> omega) _ | refine Below.setCell ?_ (by simp <;> omega) _ | refine Below.drew ?_ | refine below_drewN ?_ _))
  have zx3_0 := keepc gg x3_0
  have zx3_1 := keepc gg x3_1
  have zx3_2 := keepc gg x3_2
  have zx3_3 := keepc gg x3_3
  have zx3_4 := keepc gg x3_4
  have zx3_5 := keepc gg x3_5
  clear gg
  go_wp2_with fail
  refine (K2.out _).mono ?_
  rintro e w4 ⟨rfl, h4⟩
  have g4 : Below w3.heap.size w3 w4 := Below.trans (by repeat (first | exact Below.refl _ _ | assumption | refine Below.alloc ?_ (by simp <;> omega) _ | refine Below.setCell ?_ (by simp <;> omega) _ | refine Below.drew ?_ | refine below_drewN ?_ _)) (h4.mono (by simp <;> omega))
  have x4_0 := keepc g4 x3_0
  have x4_1 := keepc g4 x3_1
  have x4_2 := keepc g4 x3_2
  have x4_3 := keepc g4 x3_3
  have x4_4 := keepc g4 x3_4
  have x4_5 := keepc g4 x3_5
  have x4_6 := keepc h4 (a := ⟨w3.heap.size, 0, none⟩) (v := .int .i64 (U)) (by simp [go_sem])
  have x4_7 := keepc h4 (a := ⟨w3.heap.size, 1, none⟩) (v := .int .i64 (V)) (by simp [go_sem])
  clear x3_0 x3_1 x3_2 x3_3 x3_4 x3_5 zx3_0 zx3_1 zx3_2 zx3_3 zx3_4 zx3_5
  have q4 := q3.trans (g4.mono q3.size)
  clear g4 h4 q3
  go_wp2_with fail
  refine (K3.out _).mono ?_
  rintro e w5 ⟨rfl, h5⟩
  have g5 : Below w4.heap.size w4 w5 := Below.trans (by repeat (first | exact Below.refl _ _ | assumption | refine Below.alloc ?_ (by simp <;> omega) _ | refine Below.setCell ?_ (by simp <;> omega) _ | refine Below.drew ?_ | refine below_drewN ?_ _)) (h5.mono (by simp <;> omega))
  have x5_0 := keepc g5 x4_0
  have x5_1 := keepc g5 x4_1
  have x5_2 := keepc g5 x4_2
  have x5_3 := keepc g5 x4_3
  have x5_4 := keepc g5 x4_4
  have x5_5 := keepc g5 x4_5
  have x5_6 := keepc g5 x4_6
  have x5_7 := keepc g5 x4_7
  clear x4_0 x4_1 x4_2 x4_3 x4_4 x4_5 x4_6 x4_7
  have q5 := q4.trans (g5.mono q4.size)
  clear g5 h5 q4
  go_wp2_with fail
  refine (F3.out _).mono ?_
  rintro e w6 ⟨rfl, h6⟩
  have g6 : Below w5.heap.size w5 w6 := Below.trans (by repeat (first | exact Below.refl _ _ | assumption | refine Below.alloc ?_ (by simp <;> omega) _ | refine Below.setCell ?_ (by simp <;> omega) _ | refine Below.drew ?_ | refine below_drewN ?_ _)) (h6.mono (by simp <;> omega))
  have x6_0 := keepc g6 x5_0
  have x6_1 := keepc g6 x5_1
  have x6_2 := keepc g6 x5_2
  have x6_3 := keepc g6 x5_3
  have x6_4 := keepc g6 x5_4
  have x6_5 := keepc g6 x5_5
  have x6_6 := keepc g6 x5_6
  have x6_7 := keepc g6 x5_7
  clear x5_0 x5_1 x5_2 x5_3 x5_4 x5_5 x5_6 x5_7
  have q6 := q5.trans (g6.mono q5.size)
  clear g6 h6 q5
  go_wp2
  go_ret
  exact ⟨rfl, q6⟩

theorem rin_yes {s : Int × Int} (h : okv s = true) : rin s = (s, 0) := by unfold rin; rw [if_pos h]
theorem rin_no {s : Int × Int} (h : ¬ okv s = true) : rin s = ((0, 0), 2) := by unfold rin; rw [if_neg h]
theorem rop_in {a b s : Int × Int} (h : okv a = true) (g : okv b = true) : rop a b s = rin s := by unfold rop; rw [if_pos ⟨h, g⟩]
theorem rop_bad {a b s : Int × Int} (h : ¬ (okv a = true ∧ okv b = true)) : rop a b s = ((0, 0), 1) := by unfold rop; rw [if_neg h]

theorem walk (c m d k : Int) (w : World) (hc : I64 c) (hm : I64 m) (hd : I64 d) (hk : I64 k) :
    Calls Try.prog 3 #[.agg #[.int .i64 c, .int .i64 m], .agg #[.int .i64 d, .int .i64 k]] w fun e w' => e = .returned (.bool true) ∧ Below w.heap.size w w' := by
  have CA := fun w => vadd_any c m d k w
  have CD := fun w => vsub_any c m d k w
  have K2 := fun w => check_any c m w
  have K3 := fun w => check_any d k w
  have F3 := fun w => fits_any d k c m w
  by_cases ha : okv (c, m) = true
  · have pa := okv_true ha; simp only [okp] at pa
    rw [chk_ok ha] at K2
    by_cases hb : okv (d, k) = true
    · have pb := okv_true hb; simp only [okp] at pb
      rw [rop_in ha hb] at CA CD
      rw [chk_ok hb] at K3
      by_cases hs : okv (c + d, m + k) = true
      · rw [rin_yes hs] at CA
        have CS := fun w => vsub_any (c + d) (m + k) d k w
        rw [rop_in hs hb, show c + d - d = c by omega, show m + k - k = m by omega, rin_yes ha] at CS
        have F1 := fun w => fits_any c m (c + d) (m + k) w
        rw [show fitB c m (c + d) (m + k) = true by unfold fitB; simp; omega] at F1
        have F2 := fun w => fits_any d k (c + d) (m + k) w
        rw [show fitB d k (c + d) (m + k) = true by unfold fitB; simp; omega] at F2
        have K1 := fun w => check_any (c + d) (m + k) w
        rw [chk_ok hs] at K1
        by_cases hd : okv (c - d, m - k) = true
        · rw [rin_yes hd] at CD
          have pd := okv_true hd; simp only [okp] at pd
          rw [show fitB d k c m = true by unfold fitB; simp; omega] at F3
          have F4 := fun w => fits_any (c - d) (m - k) c m w
          rw [show fitB (c - d) (m - k) c m = true by unfold fitB; simp; omega] at F4
          exact case1 c m d k 0 0 0 _ _ 0 w (hid CA) (hid CS) (hid F1) (hid F2) (hid K1) (hid CD) (hid F3) (hid F4)
        · rw [rin_no hd] at CD
          rw [show fitB d k c m = false by have hd := okv_false (by simpa using hd); simp only [okp] at hd; unfold fitB; simp; omega] at F3
          exact case2 c m d k 0 0 0 _ _ _ w (by decide) (hid CA) (hid CS) (hid F1) (hid F2) (hid K1) (hid CD) (hid K2) (hid K3) (hid F3)
      · rw [rin_no hs] at CA
        by_cases hd : okv (c - d, m - k) = true
        · rw [rin_yes hd] at CD
          have pd := okv_true hd; simp only [okp] at pd
          rw [show fitB d k c m = true by unfold fitB; simp; omega] at F3
          have F4 := fun w => fits_any (c - d) (m - k) c m w
          rw [show fitB (c - d) (m - k) c m = true by unfold fitB; simp; omega] at F4
          exact case3 c m d k _ _ _ _ _ 0 w (by decide) (hid CA) (hid CD) (hid F3) (hid F4)
        · rw [rin_no hd] at CD
          rw [show fitB d k c m = false by have hd := okv_false (by simpa using hd); simp only [okp] at hd; unfold fitB; simp; omega] at F3
          exact case6 c m d k _ _ _ _ _ _ w (by decide) (by decide) (hid CA) (hid CD) (hid K2) (hid K3) (hid F3)
    · rw [rop_bad (fun h => hb h.2)] at CA CD
      rw [chk_no (by simpa using hb)] at K3
      exact case5 c m d k _ _ _ _ _ _ w (by decide) (by decide) (hid CA) (hid CD) (hid K2) (hid K3)
  · rw [rop_bad (fun h => ha h.1)] at CA CD
    rw [chk_no (by simpa using ha)] at K2
    exact case4 c m d k _ _ _ _ _ _ w (by decide) (by decide) (hid CA) (hid CD) (hid K2)

theorem own : ownKnob Try.prog.godebug = none := by kernel_rfl
theorem laidOut : laidOutB Try.prog = true := by kernel_rfl

set_option maxRecDepth 100000 in
theorem lifted (os : Os) (started : os.Started) (H : Type) (enc : TypeId × Value → H) :
    ReturnsInHanded {} Try.checked os 3 .any (Rows.vecBackSpec.pre6 enc Try.prog Try.f3 Rows.vecBackRow.domain false) (Rows.vecBackSpec.post enc Try.prog Try.f3 false true false false) := by
  refine returnsInHanded_of_change (C := Try.checked) own started (by kernel_rfl) Try.func3
    (ChangeSpec.witness6 (enc := enc) (C := Try.checked) false ⟨#[], #[.agg #[.int .i64 0, .int .i64 0], .agg #[.int .i64 0, .int .i64 0]], []⟩ 8 (by kernel_rfl) (by kernel_rfl) (by kernel_rfl) (by kernel_rfl)) ?_
  intro W base args ds gs before hval0 hW hcnd _
  have hval : ∀ (j : Nat) t v, Try.f3.params[j]? = some t → args[j]? = some v → Value.okWide Try.prog W .any base t v := hval0
  have hW' := hW
  obtain ⟨p, q, hA0, hV, rfl, hfz, hnd⟩ := hW
  have hA : DataW.TrodAll enc Try.prog W 0 (fun _ => true) true Try.f3.params.toList args.toList ds p := hA0
  rw [Try.params3] at hA hval
  obtain ⟨v0, vs0, d0, ds0, p0, q0, hargs, rfl, rfl, h0, r0⟩ := trodAll_cons hA
  obtain ⟨v1, vs1, d1, ds1, p1, q1, rfl, rfl, rfl, h1, r1⟩ := trodAll_cons r0
  obtain ⟨rfl, rfl, rfl⟩ := trodAll_nil r1
  obtain rfl : args = #[v0, v1] := by cases args; simp_all
  obtain ⟨rfl, rfl⟩ := trodVars_none hV
  have lt0 : ∀ x ∈ p0, x.block < W.heap.size := by obtain ⟨m, hm⟩ := h0; exact DataW.trod_lt m _ _ _ hm
  have lt1 : ∀ x ∈ p1, x.block < W.heap.size := by obtain ⟨m, hm⟩ := h1; exact DataW.trod_lt m _ _ _ hm
  obtain ⟨a0_0, a0_1, rfl, w0_0, w0_1⟩ := val_vec2 Try.underlying23 Try.underlying2 Try.underlying2 (by kernel_rfl) (by kernel_rfl) (hval 0 23 v0 rfl rfl) h0
  obtain ⟨a1_0, a1_1, rfl, w1_0, w1_1⟩ := val_vec2 Try.underlying23 Try.underlying2 Try.underlying2 (by kernel_rfl) (by kernel_rfl) (hval 1 23 v1 rfl rfl) h1
  clear hA0 hval0
  refine (walk a0_0 a0_1 a1_0 a1_1 W w0_0 w0_1 w1_0 w1_1).mono fun e W' ⟨he, bel⟩ => ?_
  subst he
  exact ⟨_, rfl, _, _, _, [], _, [], hW', trodAll_mk1 (shut_bool Try.underlying4 _), (trodAll_cons_mk (Below.trod laidOut (by kernel_rfl) (of_decide_eq_true (by kernel_rfl)) h0 bel lt0) (trodAll_cons_mk (Below.trod laidOut (by kernel_rfl) (of_decide_eq_true (by kernel_rfl)) h1 bel lt1) trodAll_mk0)), rfl, bel.frame _, fun h => by cases h⟩

theorem over : Rows.vecBackRow.holds Try.pinned (OpenSpec.ofChange Rows.vecBackSpec) :=
  OpenClaim.holds_of_wide 3 Try.f3 rfl rfl rfl rfl rfl rfl rfl ⟨rfl, rfl, rfl, rfl, rfl⟩ rfl rfl rfl rfl rfl (by kernel_rfl) Try.func3 (by kernel_rfl)
    (of_decide_eq_true (by kernel_rfl)) (by unfold Func.isWrapper; first | (rw [if_pos (by decide +kernel)]; kernel_rfl) | (rw [if_neg (by decide +kernel)]; exact ⟨rfl, rfl⟩))
    (fun os started H enc _ => lifted os started H enc)

theorem proved : Rows.VecBackSaid := over
#print axioms proved
end Go.Proofs.Ytmajoognpggcpab.vecBack
