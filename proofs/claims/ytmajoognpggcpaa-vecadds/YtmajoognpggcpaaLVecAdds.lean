/- VecAdds: for all amounts of int64 the law's call returns true. No further conditions. -/
import Derived.Test.YtmajoognpggcpaaVI
import Derived.Test.YtmajoognpggcpaaOpen
namespace Go.Proofs.Ytmajoognpggcpaa.vecAdds
open Go.ChangeShapes Go.WideShapes Go.ChangeAt Go.RowKit
set_option linter.unusedVariables false

theorem keepv {W V V' : World} {a : Addr} {v : Value} (c : W.cell? a = some v) (hq : Below V.heap.size V V') (hb : Below W.heap.size W V) : V'.cell? a = some v := keepc (Below.trans hb (hq.mono hb.size)) c
theorem below_up {w W V V' : World} (hB : Below w.heap.size w W) (hq : Below V.heap.size V V') (hb : Below W.heap.size W V) : Below w.heap.size W V' := Below.trans (hb.mono hB.size) (hq.mono (Nat.le_trans hB.size hb.size))
theorem row2_one {w : World} {B : Nat} {c m : Int} (h0 : w.cell? ⟨B, 0, none⟩ = some (.int .i64 c)) (h1 : w.cell? ⟨B, 1, none⟩ = some (.int .i64 m)) : Row2 w B 1 [(c, m)] := by
  refine ⟨rfl, by omega, fun j hj => ?_⟩
  obtain rfl : j = 0 := by omega
  exact ⟨h0, h1⟩

set_option maxHeartbeats 40000000 in
theorem main (c m d k X Y E U Z F K : Int) (B : Bool) (w : World) (HK : Hid (chks [(c, m)] = K))
    (CA : Hid (∀ w : World, Calls Try.prog 31 #[.agg #[.int .i64 c, .int .i64 m], .agg #[.int .i64 d, .int .i64 k]] w fun e w' => e = .returned (.tuple #[.agg #[.int .i64 X, .int .i64 Y], .int .i64 E]) ∧ Below w.heap.size w w'))
    (CS : Hid (∀ w : World, Calls Try.prog 32 #[.agg #[.int .i64 c, .int .i64 m], .agg #[.int .i64 d, .int .i64 k]] w fun e w' => e = .returned (.tuple #[.agg #[.int .i64 U, .int .i64 Z], .int .i64 F]) ∧ Below w.heap.size w w'))
    (RA : Hid (∀ w : World, Calls Try.prog 33 #[.agg #[.int .i64 c, .int .i64 m], .agg #[.int .i64 d, .int .i64 k]] w fun e w' => e = .returned (.tuple #[.agg #[.int .i64 X, .int .i64 Y], .int .i64 E]) ∧ Below w.heap.size w w'))
    (RS : Hid (∀ w : World, Calls Try.prog 34 #[.agg #[.int .i64 c, .int .i64 m], .agg #[.int .i64 d, .int .i64 k]] w fun e w' => e = .returned (.tuple #[.agg #[.int .i64 U, .int .i64 Z], .int .i64 F]) ∧ Below w.heap.size w w'))
    (K1 : Hid (∀ w : World, Calls Try.prog 35 #[.agg #[.int .i64 c, .int .i64 m]] w fun e w' => e = .returned (.int .i64 K) ∧ Below w.heap.size w w'))
    (F1 : Hid (∀ w : World, Calls Try.prog 37 #[.agg #[.int .i64 c, .int .i64 m], .agg #[.int .i64 d, .int .i64 k]] w fun e w' => e = .returned (.bool B) ∧ Below w.heap.size w w'))
    (F2 : Hid (∀ w : World, Calls Try.prog 38 #[.agg #[.int .i64 c, .int .i64 m], .agg #[.int .i64 d, .int .i64 k]] w fun e w' => e = .returned (.bool B) ∧ Below w.heap.size w w')) :
    Calls Try.prog 12 #[.agg #[.int .i64 c, .int .i64 m], .agg #[.int .i64 d, .int .i64 k]] w fun e w' => e = .returned (.bool true) ∧ Below w.heap.size w w' := by
  have tb : (B == B) = true := by simp
  go_enter Try.func12, Try.ntmps12
  go_wp2_with fail
  refine (awake2_any _).mono ?_
  rintro e w1 ⟨rfl, h1⟩
  have g1 : Below w.heap.size w w1 := Below.trans (by repeat (first | exact Below.refl _ _ | assumption | refine Below.alloc ?_ (by simp <;> omega) _ | refine Below.setCell ?_ (by simp <;> omega) _ | refine Below.drew ?_ | refine below_drewN ?_ _)) (h1.mono (by simp <;> omega))
  have x1_0 := keepc h1 (a := ⟨w.heap.size, 0, none⟩) (v := .int .i64 (c)) (by simp [go_sem])
  have x1_1 := keepc h1 (a := ⟨w.heap.size, 1, none⟩) (v := .int .i64 (m)) (by simp [go_sem])
  have x1_2 := keepc h1 (a := ⟨w.heap.size + 1, 0, none⟩) (v := .int .i64 (d)) (by simp [go_sem])
  have x1_3 := keepc h1 (a := ⟨w.heap.size + 1, 1, none⟩) (v := .int .i64 (k)) (by simp [go_sem])
  have q1 := g1
  clear g1 h1
  go_wp2_with fail
  refine (CA.out _).mono ?_
  rintro e w2 ⟨rfl, h2⟩
  have g2 : Below w1.heap.size w1 w2 := Below.trans (by repeat (first | exact Below.refl _ _ | assumption | refine Below.alloc ?_ (by simp <;> omega) _ | refine Below.setCell ?_ (by simp <;> omega) _ | refine Below.drew ?_ | refine below_drewN ?_ _)) (h2.mono (by simp <;> omega))
  have x2_0 := keepc g2 x1_0
  have x2_1 := keepc g2 x1_1
  have x2_2 := keepc g2 x1_2
  have x2_3 := keepc g2 x1_3
  clear x1_0 x1_1 x1_2 x1_3
  have q2 := q1.trans (g2.mono q1.size)
  clear g2 h2 q1
  have gg : Below w2.heap.size w2 (w2.alloc (.cells #[.int .i64 (X), .int .i64 (Y)] 40)) := (by repeat (first | exact Below.refl _ _ | assumption | refine Below.alloc ?_ (by simp <;> omega) _ | refine Below.setCell ?_ (by simp <;> omega) _ | refine Below.drew ?_ | refine below_drewN ?_ _))
  have zx2_0 := keepc gg x2_0
  have zx2_1 := keepc gg x2_1
  have zx2_2 := keepc gg x2_2
  have zx2_3 := keepc gg x2_3
  clear gg
  go_wp2_with fail
  refine (CS.out _).mono ?_
  rintro e w3 ⟨rfl, h3⟩
  have g3 : Below w2.heap.size w2 w3 := Below.trans (by repeat (first | exact Below.refl _ _ | assumption | refine Below.alloc ?_ (by simp <;> omega) _ | refine Below.setCell ?_ (by simp <;> omega) _ | refine Below.drew ?_ | refine below_drewN ?_ _)) (h3.mono (by simp <;> omega))
  have x3_0 := keepc g3 x2_0
  have x3_1 := keepc g3 x2_1
  have x3_2 := keepc g3 x2_2
  have x3_3 := keepc g3 x2_3
  have x3_4 := keepc h3 (a := ⟨w2.heap.size, 0, none⟩) (v := .int .i64 (X)) (by simp [go_sem])
  have x3_5 := keepc h3 (a := ⟨w2.heap.size, 1, none⟩) (v := .int .i64 (Y)) (by simp [go_sem])
  clear x2_0 x2_1 x2_2 x2_3 zx2_0 zx2_1 zx2_2 zx2_3
  have q3 := q2.trans (g3.mono q2.size)
  clear g3 h3 q2
  have gg : Below w3.heap.size w3 (w3.alloc (.cells #[.int .i64 (U), .int .i64 (Z)] 40)) := (by repeat (first | exact Below.refl _ _ | assumption | refine Below.alloc ?_ (by simp <;> omega) _ | refine Below.setCell ?_ (by simp <;> omega) _ | refine Below.drew ?_ | refine below_drewN ?_ _))
  have zx3_0 := keepc gg x3_0
  have zx3_1 := keepc gg x3_1
  have zx3_2 := keepc gg x3_2
  have zx3_3 := keepc gg x3_3
  have zx3_4 := keepc gg x3_4
  have zx3_5 := keepc gg x3_5
  clear gg
  go_wp2_with fail
  refine (RA.out _).mono ?_
  rintro e w4 ⟨rfl, h4⟩
  have g4 : Below w3.heap.size w3 w4 := Below.trans (by repeat (first | exact Below.refl _ _ | assumption | refine Below.alloc ?_ (by simp <;> omega) _ | refine Below.setCell ?_ (by simp <;> omega) _ | refine Below.drew ?_ | refine below_drewN ?_ _)) (h4.mono (by simp <;> omega))
  have x4_0 := keepc g4 x3_0
  have x4_1 := keepc g4 x3_1
  have x4_2 := keepc g4 x3_2
  have x4_3 := keepc g4 x3_3
  have x4_4 := keepc g4 x3_4
  have x4_5 := keepc g4 x3_5
  have x4_6 := keepc h4 (a := ⟨w3.heap.size, 0, none⟩) (v := .int .i64 (U)) (by simp [go_sem])
  have x4_7 := keepc h4 (a := ⟨w3.heap.size, 1, none⟩) (v := .int .i64 (Z)) (by simp [go_sem])
  clear x3_0 x3_1 x3_2 x3_3 x3_4 x3_5 zx3_0 zx3_1 zx3_2 zx3_3 zx3_4 zx3_5
  have q4 := q3.trans (g4.mono q3.size)
  clear g4 h4 q3
  have gg : Below w4.heap.size w4 (w4.alloc (.cells #[.int .i64 (X), .int .i64 (Y)] 40)) := (by repeat (first | exact Below.refl _ _ | assumption | refine Below.alloc ?_ (by simp <;> omega) _ | refine Below.setCell ?_ (by simp <;> omega) _ | refine Below.drew ?_ | refine below_drewN ?_ _))
  have zx4_0 := keepc gg x4_0
  have zx4_1 := keepc gg x4_1
  have zx4_2 := keepc gg x4_2
  have zx4_3 := keepc gg x4_3
  have zx4_4 := keepc gg x4_4
  have zx4_5 := keepc gg x4_5
  have zx4_6 := keepc gg x4_6
  have zx4_7 := keepc gg x4_7
  clear gg
  go_wp2_with fail
  refine (RS.out _).mono ?_
  rintro e w5 ⟨rfl, h5⟩
  have g5 : Below w4.heap.size w4 w5 := Below.trans (by repeat (first | exact Below.refl _ _ | assumption | refine Below.alloc ?_ (by simp <;> omega) _ | refine Below.setCell ?_ (by simp <;> omega) _ | refine Below.drew ?_ | refine below_drewN ?_ _)) (h5.mono (by simp <;> omega))
  have x5_0 := keepc g5 x4_0
  have x5_1 := keepc g5 x4_1
  have x5_2 := keepc g5 x4_2
  have x5_3 := keepc g5 x4_3
  have x5_4 := keepc g5 x4_4
  have x5_5 := keepc g5 x4_5
  have x5_6 := keepc g5 x4_6
  have x5_7 := keepc g5 x4_7
  have x5_8 := keepc h5 (a := ⟨w4.heap.size, 0, none⟩) (v := .int .i64 (X)) (by simp [go_sem])
  have x5_9 := keepc h5 (a := ⟨w4.heap.size, 1, none⟩) (v := .int .i64 (Y)) (by simp [go_sem])
  clear x4_0 x4_1 x4_2 x4_3 x4_4 x4_5 x4_6 x4_7 zx4_0 zx4_1 zx4_2 zx4_3 zx4_4 zx4_5 zx4_6 zx4_7
  have q5 := q4.trans (g5.mono q4.size)
  clear g5 h5 q4
  have gg : Below w5.heap.size w5 (w5.alloc (.cells #[.int .i64 (U), .int .i64 (Z)] 40)) := (by repeat (first | exact Below.refl _ _ | assumption | refine Below.alloc ?_ (by simp <;> omega) _ | refine Below.setCell ?_ (by simp <;> omega) _ | refine Below.drew ?_ | refine below_drewN ?_ _))
  have zx5_0 := keepc gg x5_0
  have zx5_1 := keepc gg x5_1
  have zx5_2 := keepc gg x5_2
  have zx5_3 := keepc gg x5_3
  have zx5_4 := keepc gg x5_4
  have zx5_5 := keepc gg x5_5
  have zx5_6 := keepc gg x5_6
  have zx5_7 := keepc gg x5_7
  have zx5_8 := keepc gg x5_8
  have zx5_9 := keepc gg x5_9
  clear gg
  go_upto_region 7 with fail
  have hb : Below w5.heap.size w5 (w5.alloc (.cells #[.int .i64 (U), .int .i64 (Z)] 40)) := (by repeat (first | exact Below.refl _ _ | assumption | refine Below.alloc ?_ (by simp <;> omega) _ | refine Below.setCell ?_ (by simp <;> omega) _ | refine Below.drew ?_ | refine below_drewN ?_ _))
  have c0 := keepc hb x5_0
  have c1 := keepc hb x5_1
  have c2 := keepc hb x5_2
  have c3 := keepc hb x5_3
  have c4 := keepc hb x5_4
  have c5 := keepc hb x5_5
  have c6 := keepc hb x5_6
  have c7 := keepc hb x5_7
  have c8 := keepc hb x5_8
  have c9 := keepc hb x5_9
  have c10 : (w5.alloc (.cells #[.int .i64 (U), .int .i64 (Z)] 40)).cell? ⟨w5.heap.size, 0, none⟩ = some (.int .i64 U) := by simp [go_sem]
  have c11 : (w5.alloc (.cells #[.int .i64 (U), .int .i64 (Z)] 40)).cell? ⟨w5.heap.size, 1, none⟩ = some (.int .i64 Z) := by simp [go_sem]
  have hB := q5.trans (hb.mono q5.size)
  clear hb x5_0 x5_1 x5_2 x5_3 x5_4 x5_5 x5_6 x5_7 x5_8 x5_9 zx5_0 zx5_1 zx5_2 zx5_3 zx5_4 zx5_5 zx5_6 zx5_7 zx5_8 zx5_9 q5
  generalize (w5.alloc (.cells #[.int .i64 (U), .int .i64 (Z)] 40)) = W at *
  go_region_held3 (fun w' => w'.cell? ⟨w.heap.size, 0, none⟩ = some (.int .i64 c) ∧ w'.cell? ⟨w.heap.size, 1, none⟩ = some (.int .i64 m) ∧ w'.cell? ⟨w.heap.size + 1, 0, none⟩ = some (.int .i64 d) ∧ w'.cell? ⟨w.heap.size + 1, 1, none⟩ = some (.int .i64 k) ∧ w'.cell? ⟨w2.heap.size, 0, none⟩ = some (.int .i64 X) ∧ w'.cell? ⟨w2.heap.size, 1, none⟩ = some (.int .i64 Y) ∧ w'.cell? ⟨w3.heap.size, 0, none⟩ = some (.int .i64 U) ∧ w'.cell? ⟨w3.heap.size, 1, none⟩ = some (.int .i64 Z) ∧ w'.cell? ⟨w4.heap.size, 0, none⟩ = some (.int .i64 X) ∧ w'.cell? ⟨w4.heap.size, 1, none⟩ = some (.int .i64 Y) ∧ w'.cell? ⟨w5.heap.size, 0, none⟩ = some (.int .i64 U) ∧ w'.cell? ⟨w5.heap.size, 1, none⟩ = some (.int .i64 Z)) (first | (exact ⟨c0, c1, c2, c3, c4, c5, c6, c7, c8, c9, c10, c11⟩) | (refine ⟨keepc (by repeat (first | exact Below.refl _ _ | assumption | refine Below.alloc ?_ (by simp <;> omega) _ | refine Below.setCell ?_ (by simp <;> omega) _ | refine Below.drew ?_ | refine below_drewN ?_ _)) c0, keepc (by repeat (first | exact Below.refl _ _ | assumption | refine Below.alloc ?_ (by simp <;> omega) _ | refine Below.setCell ?_ (by simp <;> omega) _ | refine Below.drew ?_ | refine below_drewN ?_ _)) c1, keepc (by repeat (first | exact Below.refl _ _ | assumption | refine Below.alloc ?_ (by simp <;> omega) _ | refine Below.setCell ?_ (by simp <;> omega) _ | refine Below.drew ?_ | refine below_drewN ?_ _)) c2, keepc (by repeat (first | exact Below.refl _ _ | assumption | refine Below.alloc ?_ (by simp <;> omega) _ | refine Below.setCell ?_ (by simp <;> omega) _ | refine Below.drew ?_ | refine below_drewN ?_ _)) c3, keepc (by repeat (first | exact Below.refl _ _ | assumption | refine Below.alloc ?_ (by simp <;> omega) _ | refine Below.setCell ?_ (by simp <;> omega) _ | refine Below.drew ?_ | refine below_drewN ?_ _)) c4, keepc (by repeat (first | exact Below.refl _ _ | assumption | refine Below.alloc ?_ (by simp <;> omega) _ | refine Below.setCell ?_ (by simp <;> omega) _ | refine Below.drew ?_ | refine below_drewN ?_ _)) c5, keepc (by repeat (first | exact Below.refl _ _ | assumption | refine Below.alloc ?_ (by simp <;> omega) _ | refine Below.setCell ?_ (by simp <;> omega) _ | refine Below.drew ?_ | refine below_drewN ?_ _)) c6, keepc (by repeat (first | exact Below.refl _ _ | assumption | refine Below.alloc ?_ (by simp <;> omega) _ | refine Below.setCell ?_ (by simp <;> omega) _ | refine Below.drew ?_ | refine below_drewN ?_ _)) c7, keepc (by repeat (first | exact Below.refl _ _ | assumption | refine Below.alloc ?_ (by simp <;> omega) _ | refine Below.setCell ?_ (by simp <;> omega) _ | refine Below.drew ?_ | refine below_drewN ?_ _)) c8, keepc (by repeat (first | exact Below.refl _ _ | assumption | refine Below.alloc ?_ (by simp <;> omega) _ | refine Below.setCell ?_ (by simp <;> omega) _ | refine Below.drew ?_ | refine below_drewN ?_ _)) c9, keepc (by repeat (first | exact Below.refl _ _ | assumption | refine Below.alloc ?_ (by simp <;> omega) _ | refine Below.setCell ?_ (by simp <;> omega) _ | refine Below.drew ?_ | refine below_drewN ?_ _)) c10, keepc (by repeat (first | exact Below.refl _ _ | assumption | refine Below.alloc ?_ (by simp <;> omega) _ | refine Below.setCell ?_ (by simp <;> omega) _ | refine Below.drew ?_ | refine below_drewN ?_ _)) c11⟩))
    (first
    | (go_at_call 35; (with_reducible refine (K1.out _).mono ?_); rintro e w' ⟨rfl, hq⟩; have c0 := keepv c0 hq (by repeat (first | exact Below.refl _ _ | assumption | refine Below.alloc ?_ (by simp <;> omega) _ | refine Below.setCell ?_ (by simp <;> omega) _ | refine Below.drew ?_ | refine below_drewN ?_ _)); have c1 := keepv c1 hq (by repeat (first | exact Below.refl _ _ | assumption | refine Below.alloc ?_ (by simp <;> omega) _ | refine Below.setCell ?_ (by simp <;> omega) _ | refine Below.drew ?_ | refine below_drewN ?_ _)); have c2 := keepv c2 hq (by repeat (first | exact Below.refl _ _ | assumption | refine Below.alloc ?_ (by simp <;> omega) _ | refine Below.setCell ?_ (by simp <;> omega) _ | refine Below.drew ?_ | refine below_drewN ?_ _)); have c3 := keepv c3 hq (by repeat (first | exact Below.refl _ _ | assumption | refine Below.alloc ?_ (by simp <;> omega) _ | refine Below.setCell ?_ (by simp <;> omega) _ | refine Below.drew ?_ | refine below_drewN ?_ _)); have c4 := keepv c4 hq (by repeat (first | exact Below.refl _ _ | assumption | refine Below.alloc ?_ (by simp <;> omega) _ | refine Below.setCell ?_ (by simp <;> omega) _ | refine Below.drew ?_ | refine below_drewN ?_ _)); have c5 := keepv c5 hq (by repeat (first | exact Below.refl _ _ | assumption | refine Below.alloc ?_ (by simp <;> omega) _ | refine Below.setCell ?_ (by simp <;> omega) _ | refine Below.drew ?_ | refine below_drewN ?_ _)); have c6 := keepv c6 hq (by repeat (first | exact Below.refl _ _ | assumption | refine Below.alloc ?_ (by simp <;> omega) _ | refine Below.setCell ?_ (by simp <;> omega) _ | refine Below.drew ?_ | refine below_drewN ?_ _)); have c7 := keepv c7 hq (by repeat (first | exact Below.refl _ _ | assumption | refine Below.alloc ?_ (by simp <;> omega) _ | refine Below.setCell ?_ (by simp <;> omega) _ | refine Below.drew ?_ | refine below_drewN ?_ _)); have c8 := keepv c8 hq (by repeat (first | exact Below.refl _ _ | assumption | refine Below.alloc ?_ (by simp <;> omega) _ | refine Below.setCell ?_ (by simp <;> omega) _ | refine Below.drew ?_ | refine below_drewN ?_ _)); have c9 := keepv c9 hq (by repeat (first | exact Below.refl _ _ | assumption | refine Below.alloc ?_ (by simp <;> omega) _ | refine Below.setCell ?_ (by simp <;> omega) _ | refine Below.drew ?_ | refine below_drewN ?_ _)); have c10 := keepv c10 hq (by repeat (first | exact Below.refl _ _ | assumption | refine Below.alloc ?_ (by simp <;> omega) _ | refine Below.setCell ?_ (by simp <;> omega) _ | refine Below.drew ?_ | refine below_drewN ?_ _)); have c11 := keepv c11 hq (by repeat (first | exact Below.refl _ _ | assumption | refine Below.alloc ?_ (by simp <;> omega) _ | refine Below.setCell ?_ (by simp <;> omega) _ | refine Below.drew ?_ | refine below_drewN ?_ _)); have hB := Below.trans hB (below_up hB hq (by repeat (first | exact Below.refl _ _ | assumption | refine Below.alloc ?_ (by simp <;> omega) _ | refine Below.setCell ?_ (by simp <;> omega) _ | refine Below.drew ?_ | refine below_drewN ?_ _))); have s0 := fun p v h => keepc (a := p) (v := v) hq h)
    | (go_at_call 36; (refine (rcheck_any _ 1 1 [(c, m)] _ (row2_one (by first | (simp [go_sem]; done) | (exact s0 _ _ (by simp [go_sem]))) (by first | (simp [go_sem]; done) | (exact s0 _ _ (by simp [go_sem]))))).mono ?_); rw [HK.out]; rintro e w' ⟨rfl, hq⟩; have c0 := keepv c0 hq (by repeat (first | exact Below.refl _ _ | assumption | refine Below.alloc ?_ (by simp <;> omega) _ | refine Below.setCell ?_ (by simp <;> omega) _ | refine Below.drew ?_ | refine below_drewN ?_ _)); have c1 := keepv c1 hq (by repeat (first | exact Below.refl _ _ | assumption | refine Below.alloc ?_ (by simp <;> omega) _ | refine Below.setCell ?_ (by simp <;> omega) _ | refine Below.drew ?_ | refine below_drewN ?_ _)); have c2 := keepv c2 hq (by repeat (first | exact Below.refl _ _ | assumption | refine Below.alloc ?_ (by simp <;> omega) _ | refine Below.setCell ?_ (by simp <;> omega) _ | refine Below.drew ?_ | refine below_drewN ?_ _)); have c3 := keepv c3 hq (by repeat (first | exact Below.refl _ _ | assumption | refine Below.alloc ?_ (by simp <;> omega) _ | refine Below.setCell ?_ (by simp <;> omega) _ | refine Below.drew ?_ | refine below_drewN ?_ _)); have c4 := keepv c4 hq (by repeat (first | exact Below.refl _ _ | assumption | refine Below.alloc ?_ (by simp <;> omega) _ | refine Below.setCell ?_ (by simp <;> omega) _ | refine Below.drew ?_ | refine below_drewN ?_ _)); have c5 := keepv c5 hq (by repeat (first | exact Below.refl _ _ | assumption | refine Below.alloc ?_ (by simp <;> omega) _ | refine Below.setCell ?_ (by simp <;> omega) _ | refine Below.drew ?_ | refine below_drewN ?_ _)); have c6 := keepv c6 hq (by repeat (first | exact Below.refl _ _ | assumption | refine Below.alloc ?_ (by simp <;> omega) _ | refine Below.setCell ?_ (by simp <;> omega) _ | refine Below.drew ?_ | refine below_drewN ?_ _)); have c7 := keepv c7 hq (by repeat (first | exact Below.refl _ _ | assumption | refine Below.alloc ?_ (by simp <;> omega) _ | refine Below.setCell ?_ (by simp <;> omega) _ | refine Below.drew ?_ | refine below_drewN ?_ _)); have c8 := keepv c8 hq (by repeat (first | exact Below.refl _ _ | assumption | refine Below.alloc ?_ (by simp <;> omega) _ | refine Below.setCell ?_ (by simp <;> omega) _ | refine Below.drew ?_ | refine below_drewN ?_ _)); have c9 := keepv c9 hq (by repeat (first | exact Below.refl _ _ | assumption | refine Below.alloc ?_ (by simp <;> omega) _ | refine Below.setCell ?_ (by simp <;> omega) _ | refine Below.drew ?_ | refine below_drewN ?_ _)); have c10 := keepv c10 hq (by repeat (first | exact Below.refl _ _ | assumption | refine Below.alloc ?_ (by simp <;> omega) _ | refine Below.setCell ?_ (by simp <;> omega) _ | refine Below.drew ?_ | refine below_drewN ?_ _)); have c11 := keepv c11 hq (by repeat (first | exact Below.refl _ _ | assumption | refine Below.alloc ?_ (by simp <;> omega) _ | refine Below.setCell ?_ (by simp <;> omega) _ | refine Below.drew ?_ | refine below_drewN ?_ _)); have hB := Below.trans hB (below_up hB hq (by repeat (first | exact Below.refl _ _ | assumption | refine Below.alloc ?_ (by simp <;> omega) _ | refine Below.setCell ?_ (by simp <;> omega) _ | refine Below.drew ?_ | refine below_drewN ?_ _))))
    | (go_at_call 37; (with_reducible refine (F1.out _).mono ?_); rintro e w' ⟨rfl, hq⟩; have c0 := keepv c0 hq (by repeat (first | exact Below.refl _ _ | assumption | refine Below.alloc ?_ (by simp <;> omega) _ | refine Below.setCell ?_ (by simp <;> omega) _ | refine Below.drew ?_ | refine below_drewN ?_ _)); have c1 := keepv c1 hq (by repeat (first | exact Below.refl _ _ | assumption | refine Below.alloc ?_ (by simp <;> omega) _ | refine Below.setCell ?_ (by simp <;> omega) _ | refine Below.drew ?_ | refine below_drewN ?_ _)); have c2 := keepv c2 hq (by repeat (first | exact Below.refl _ _ | assumption | refine Below.alloc ?_ (by simp <;> omega) _ | refine Below.setCell ?_ (by simp <;> omega) _ | refine Below.drew ?_ | refine below_drewN ?_ _)); have c3 := keepv c3 hq (by repeat (first | exact Below.refl _ _ | assumption | refine Below.alloc ?_ (by simp <;> omega) _ | refine Below.setCell ?_ (by simp <;> omega) _ | refine Below.drew ?_ | refine below_drewN ?_ _)); have c4 := keepv c4 hq (by repeat (first | exact Below.refl _ _ | assumption | refine Below.alloc ?_ (by simp <;> omega) _ | refine Below.setCell ?_ (by simp <;> omega) _ | refine Below.drew ?_ | refine below_drewN ?_ _)); have c5 := keepv c5 hq (by repeat (first | exact Below.refl _ _ | assumption | refine Below.alloc ?_ (by simp <;> omega) _ | refine Below.setCell ?_ (by simp <;> omega) _ | refine Below.drew ?_ | refine below_drewN ?_ _)); have c6 := keepv c6 hq (by repeat (first | exact Below.refl _ _ | assumption | refine Below.alloc ?_ (by simp <;> omega) _ | refine Below.setCell ?_ (by simp <;> omega) _ | refine Below.drew ?_ | refine below_drewN ?_ _)); have c7 := keepv c7 hq (by repeat (first | exact Below.refl _ _ | assumption | refine Below.alloc ?_ (by simp <;> omega) _ | refine Below.setCell ?_ (by simp <;> omega) _ | refine Below.drew ?_ | refine below_drewN ?_ _)); have c8 := keepv c8 hq (by repeat (first | exact Below.refl _ _ | assumption | refine Below.alloc ?_ (by simp <;> omega) _ | refine Below.setCell ?_ (by simp <;> omega) _ | refine Below.drew ?_ | refine below_drewN ?_ _)); have c9 := keepv c9 hq (by repeat (first | exact Below.refl _ _ | assumption | refine Below.alloc ?_ (by simp <;> omega) _ | refine Below.setCell ?_ (by simp <;> omega) _ | refine Below.drew ?_ | refine below_drewN ?_ _)); have c10 := keepv c10 hq (by repeat (first | exact Below.refl _ _ | assumption | refine Below.alloc ?_ (by simp <;> omega) _ | refine Below.setCell ?_ (by simp <;> omega) _ | refine Below.drew ?_ | refine below_drewN ?_ _)); have c11 := keepv c11 hq (by repeat (first | exact Below.refl _ _ | assumption | refine Below.alloc ?_ (by simp <;> omega) _ | refine Below.setCell ?_ (by simp <;> omega) _ | refine Below.drew ?_ | refine below_drewN ?_ _)); have hB := Below.trans hB (below_up hB hq (by repeat (first | exact Below.refl _ _ | assumption | refine Below.alloc ?_ (by simp <;> omega) _ | refine Below.setCell ?_ (by simp <;> omega) _ | refine Below.drew ?_ | refine below_drewN ?_ _))))
    | (go_at_call 38; (with_reducible refine (F2.out _).mono ?_); rintro e w' ⟨rfl, hq⟩; have c0 := keepv c0 hq (by repeat (first | exact Below.refl _ _ | assumption | refine Below.alloc ?_ (by simp <;> omega) _ | refine Below.setCell ?_ (by simp <;> omega) _ | refine Below.drew ?_ | refine below_drewN ?_ _)); have c1 := keepv c1 hq (by repeat (first | exact Below.refl _ _ | assumption | refine Below.alloc ?_ (by simp <;> omega) _ | refine Below.setCell ?_ (by simp <;> omega) _ | refine Below.drew ?_ | refine below_drewN ?_ _)); have c2 := keepv c2 hq (by repeat (first | exact Below.refl _ _ | assumption | refine Below.alloc ?_ (by simp <;> omega) _ | refine Below.setCell ?_ (by simp <;> omega) _ | refine Below.drew ?_ | refine below_drewN ?_ _)); have c3 := keepv c3 hq (by repeat (first | exact Below.refl _ _ | assumption | refine Below.alloc ?_ (by simp <;> omega) _ | refine Below.setCell ?_ (by simp <;> omega) _ | refine Below.drew ?_ | refine below_drewN ?_ _)); have c4 := keepv c4 hq (by repeat (first | exact Below.refl _ _ | assumption | refine Below.alloc ?_ (by simp <;> omega) _ | refine Below.setCell ?_ (by simp <;> omega) _ | refine Below.drew ?_ | refine below_drewN ?_ _)); have c5 := keepv c5 hq (by repeat (first | exact Below.refl _ _ | assumption | refine Below.alloc ?_ (by simp <;> omega) _ | refine Below.setCell ?_ (by simp <;> omega) _ | refine Below.drew ?_ | refine below_drewN ?_ _)); have c6 := keepv c6 hq (by repeat (first | exact Below.refl _ _ | assumption | refine Below.alloc ?_ (by simp <;> omega) _ | refine Below.setCell ?_ (by simp <;> omega) _ | refine Below.drew ?_ | refine below_drewN ?_ _)); have c7 := keepv c7 hq (by repeat (first | exact Below.refl _ _ | assumption | refine Below.alloc ?_ (by simp <;> omega) _ | refine Below.setCell ?_ (by simp <;> omega) _ | refine Below.drew ?_ | refine below_drewN ?_ _)); have c8 := keepv c8 hq (by repeat (first | exact Below.refl _ _ | assumption | refine Below.alloc ?_ (by simp <;> omega) _ | refine Below.setCell ?_ (by simp <;> omega) _ | refine Below.drew ?_ | refine below_drewN ?_ _)); have c9 := keepv c9 hq (by repeat (first | exact Below.refl _ _ | assumption | refine Below.alloc ?_ (by simp <;> omega) _ | refine Below.setCell ?_ (by simp <;> omega) _ | refine Below.drew ?_ | refine below_drewN ?_ _)); have c10 := keepv c10 hq (by repeat (first | exact Below.refl _ _ | assumption | refine Below.alloc ?_ (by simp <;> omega) _ | refine Below.setCell ?_ (by simp <;> omega) _ | refine Below.drew ?_ | refine below_drewN ?_ _)); have c11 := keepv c11 hq (by repeat (first | exact Below.refl _ _ | assumption | refine Below.alloc ?_ (by simp <;> omega) _ | refine Below.setCell ?_ (by simp <;> omega) _ | refine Below.drew ?_ | refine below_drewN ?_ _)); have hB := Below.trans hB (below_up hB hq (by repeat (first | exact Below.refl _ _ | assumption | refine Below.alloc ?_ (by simp <;> omega) _ | refine Below.setCell ?_ (by simp <;> omega) _ | refine Below.drew ?_ | refine below_drewN ?_ _)))))
  all_goals
    go_wp2
    go_ret
    exact ⟨rfl, hB⟩

theorem walk (c m d k : Int) (w : World) (hc : I64 c) (hm : I64 m) (hd : I64 d) (hk : I64 k) :
    Calls Try.prog 12 #[.agg #[.int .i64 c, .int .i64 m], .agg #[.int .i64 d, .int .i64 k]] w fun e w' => e = .returned (.bool true) ∧ Below w.heap.size w w' := by
  refine main c m d k _ _ _ _ _ _ (chk c m) _ w ?_ (hid (fun w => vadd_any c m d k w)) (hid (fun w => vsub_any c m d k w)) (hid (fun w => radd2_any c m d k w)) (hid (fun w => rsub2_any c m d k w)) (hid (fun w => check_any c m w)) (hid (fun w => fits_any c m d k w)) (hid (fun w => rfits_any c m d k w))
  show chks [(c, m)] = chk c m
  unfold chks chk
  simp [okv]

theorem own : ownKnob Try.prog.godebug = none := by kernel_rfl
theorem laidOut : laidOutB Try.prog = true := by kernel_rfl

set_option maxRecDepth 100000 in
theorem lifted (os : Os) (started : os.Started) (H : Type) (enc : TypeId × Value → H) :
    ReturnsInHanded {} Try.checked os 12 .any (Rows.vecAddsSpec.pre6 enc Try.prog Try.f12 Rows.vecAddsRow.domain false) (Rows.vecAddsSpec.post enc Try.prog Try.f12 false true false false) := by
  refine returnsInHanded_of_change (C := Try.checked) own started (by kernel_rfl) Try.func12
    (ChangeSpec.witness6 (enc := enc) (C := Try.checked) false ⟨#[], #[.agg #[.int .i64 0, .int .i64 0], .agg #[.int .i64 0, .int .i64 0]], []⟩ 8 (by kernel_rfl) (by kernel_rfl) (by kernel_rfl) (by kernel_rfl)) ?_
  intro W base args ds gs before hval0 hW hcnd _
  have hval : ∀ (j : Nat) t v, Try.f12.params[j]? = some t → args[j]? = some v → Value.okWide Try.prog W .any base t v := hval0
  have hW' := hW
  obtain ⟨p, q, hA0, hV, rfl, hfz, hnd⟩ := hW
  have hA : DataW.TrodAll enc Try.prog W 0 (fun _ => true) true Try.f12.params.toList args.toList ds p := hA0
  rw [Try.params12] at hA hval
  obtain ⟨v0, vs0, d0, ds0, p0, q0, hargs, rfl, rfl, h0, r0⟩ := trodAll_cons hA
  obtain ⟨v1, vs1, d1, ds1, p1, q1, rfl, rfl, rfl, h1, r1⟩ := trodAll_cons r0
  obtain ⟨rfl, rfl, rfl⟩ := trodAll_nil r1
  obtain rfl : args = #[v0, v1] := by cases args; simp_all
  obtain ⟨rfl, rfl⟩ := trodVars_none hV
  have lt0 : ∀ x ∈ p0, x.block < W.heap.size := by obtain ⟨m, hm⟩ := h0; exact DataW.trod_lt m _ _ _ hm
  have lt1 : ∀ x ∈ p1, x.block < W.heap.size := by obtain ⟨m, hm⟩ := h1; exact DataW.trod_lt m _ _ _ hm
  obtain ⟨a0_0, a0_1, rfl, w0_0, w0_1⟩ := val_vec2 Try.underlying40 Try.underlying2 Try.underlying2 (by kernel_rfl) (by kernel_rfl) (hval 0 40 v0 rfl rfl) h0
  obtain ⟨a1_0, a1_1, rfl, w1_0, w1_1⟩ := val_vec2 Try.underlying40 Try.underlying2 Try.underlying2 (by kernel_rfl) (by kernel_rfl) (hval 1 40 v1 rfl rfl) h1
  clear hA0 hval0
  refine (walk a0_0 a0_1 a1_0 a1_1 W w0_0 w0_1 w1_0 w1_1).mono fun e W' ⟨he, bel⟩ => ?_
  subst he
  exact ⟨_, rfl, _, _, _, [], _, [], hW', trodAll_mk1 (shut_bool Try.underlying4 _), (trodAll_cons_mk (Below.trod laidOut (by kernel_rfl) (of_decide_eq_true (by kernel_rfl)) h0 bel lt0) (trodAll_cons_mk (Below.trod laidOut (by kernel_rfl) (of_decide_eq_true (by kernel_rfl)) h1 bel lt1) trodAll_mk0)), rfl, bel.frame _, fun h => by cases h⟩

theorem over : Rows.vecAddsRow.holds Try.pinned (OpenSpec.ofChange Rows.vecAddsSpec) :=
  OpenClaim.holds_of_wide 12 Try.f12 rfl rfl rfl rfl rfl rfl rfl ⟨rfl, rfl, rfl, rfl, rfl⟩ rfl rfl rfl rfl rfl (by kernel_rfl) Try.func12 (by kernel_rfl)
    (of_decide_eq_true (by kernel_rfl)) (by unfold Func.isWrapper; first | (rw [if_pos (by decide +kernel)]; kernel_rfl) | (rw [if_neg (by decide +kernel)]; exact ⟨rfl, rfl⟩))
    (fun os started H enc _ => lifted os started H enc)

theorem proved : Rows.VecAddsSaid := over
#print axioms proved
end Go.Proofs.Ytmajoognpggcpaa.vecAdds
